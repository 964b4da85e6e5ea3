import Derived.Test.YthdljcdbfmhleaaGreatDoorC13
import Derived.Deep.QuietTactic
import Derived.BigQuiet
import Derived.Deep.AppendLies
namespace Go.Proofs.YthdljcdbfmhleaaGreatDoor
set_option maxHeartbeats 400000
set_option maxRecDepth 100000
open Go.RowKit
section
variable {n mn mx:Int}
def zaV:Nat->Value->Int->Prop
 |0,_,_=>False
 |n+1,v,wt=>
  (∃x,v=.iface 201 (.agg #[x])/\wt=1)\/
  (∃l r a b,v=.iface 116 (.agg #[l,r])/\zaV n l a/\zaV n r b/\wt=capW (a+b))\/
  (∃l r a b,v=.iface 118 (.agg #[l,r])/\zaV n l a/\zaV n r b/\wt=capW (a+b))\/
  (∃l a mn mx,v=.iface 121 (.agg #[l,.int .i64 mn,.int .i64 mx])/\zaV n l a/\zaD mn mx=true/\wt=capW (a*zaL mn mx))\/
  (∃l g,v=.iface 124 (.agg #[l,.int .i64 g])/\zaV n l wt)
theorem zcM(h:1<=n):1<=capW n/\capW n<=2001:=by unfold capW;split<;>omega
theorem zdJ(h:n<=2001):capW n=n:=by unfold capW;rw[zst h]
theorem zaV.facts:∀(n:Nat) (v:Value) (wt:Int),zaV n v wt->zb6 v wt/\1<=wt/\wt<=2001
 |0,_,_,h=>h.elim
 |n+1,v,wt,h=>by
  rcases h with ⟨f,rfl,rfl⟩|⟨l,r,a,b,rfl,hl,hr,rfl⟩|⟨l,r,a,b,rfl,hl,hr,rfl⟩|⟨l,a,mn,mx,rfl,hl,hb,rfl⟩|⟨l,g,rfl,hl⟩
  ·exact⟨zg1 f,by omega,by omega⟩
  ·obtain⟨h1,h2,h3⟩:=zaV.facts n l a hl;obtain⟨k1,k2,k3⟩:=zaV.facts n r b hr;exact⟨zg0 l r a b h1 k1 (by omega) h3 (by omega) k3,zcM (by omega)⟩
  ·obtain⟨h1,h2,h3⟩:=zaV.facts n l a hl;obtain⟨k1,k2,k3⟩:=zaV.facts n r b hr;exact⟨zgX l r a b h1 k1 (by omega) h3 (by omega) k3,zcM (by omega)⟩
  ·obtain⟨h1,h2,h3⟩:=zaV.facts n l a hl;have hc:=zcg hb;exact⟨zgZ l a mn mx h1 (by omega) h3 hb,zcM (Int.mul_le_mul h2 hc.1 (by omega) (by omega) |> fun h=>by simpa using h)⟩
  ·obtain⟨h1,h2,h3⟩:=zaV.facts n l wt hl;exact⟨zgY l g wt h1,h2,h3⟩
theorem zaV.mono:∀(n m:Nat) (v:Value) (wt:Int),n<=m->zaV n v wt->zaV m v wt
 |0,_,_,_,_,h=>h.elim
 |_+1,0,_,_,hnm,_=>absurd hnm (Nat.not_succ_le_zero _)
 |n+1,m+1,v,wt,hnm,h=>by
  have hnm':n<=m:=Nat.le_of_succ_le_succ hnm;rcases h with ⟨f,rfl,rfl⟩|⟨l,r,a,b,rfl,hl,hr,rfl⟩|⟨l,r,a,b,rfl,hl,hr,rfl⟩|⟨l,a,mn,mx,rfl,hl,hb,rfl⟩|⟨l,g,rfl,hl⟩
  ·exact .inl ⟨f,rfl,rfl⟩
  ·exact .inr (.inl ⟨l,r,a,b,rfl,zaV.mono n m l a hnm' hl,zaV.mono n m r b hnm' hr,rfl⟩)
  ·exact .inr (.inr (.inl ⟨l,r,a,b,rfl,zaV.mono n m l a hnm' hl,zaV.mono n m r b hnm' hr,rfl⟩))
  ·exact .inr (.inr (.inr (.inl ⟨l,a,mn,mx,rfl,zaV.mono n m l a hnm' hl,hb,rfl⟩)))
  ·exact .inr (.inr (.inr (.inr ⟨l,g,rfl,zaV.mono n m l wt hnm' hl⟩)))
theorem ziz(v:Value)(w:World)(t:TypeId)(x:Value)(hv:v=.iface t x):
  Calls Tryz.prog 100 #[v,.int .i64 1,.int .i64 1] w fun e w'=>e=.returned v/\Below w.heap.size w w':=by
 subst hv
 go_enter Tryz.func100,Tryz.ntmps100
 go_wp2;go_ret;exact⟨rfl,Below.refl _ _⟩
def zci(t:TypeId)(x:Value):Prop:=∀w,(Instr.typeAssert (.iface t x) 85 121 true).run Tryz.prog w=.ok (.tuple #[.agg #[.nilIface,.int .i64 0,.int .i64 0],.bool false]) w
theorem znn(x:Value):zci 201 x:=fun w=>by kernel_rfl
theorem znm(x:Value):zci 116 x:=fun w=>by kernel_rfl
theorem znk(x:Value):zci 118 x:=fun w=>by kernel_rfl
theorem znl(x:Value):zci 124 x:=fun w=>by kernel_rfl
theorem zpk(x:Value)(w:World):(Instr.typeAssert (.iface 121 x) 85 121 true).run Tryz.prog w=.ok (.tuple #[x,.bool true]) w:=by kernel_rfl
theorem zgu(t:TypeId)(x:Value)(ho:zci t x)(mn mx:Int)(w:World)(h1:¬(mn=1/\mx=1)):
  Calls Tryz.prog 100 #[.iface t x,.int .i64 mn,.int .i64 mx] w fun e w'=>e=.returned (.iface 121 (.agg #[.iface t x,.int .i64 mn,.int .i64 mx]))/\Below w.heap.size w w':=by
 unfold zci at ho
 by_cases h:mn=1
 ·subst h;have hb:(mx==1)=false:=zsk.2 (by simpa using h1);clear h1
  go_enter Tryz.func100,Tryz.ntmps100
  go_wp2;go_ret;exact⟨rfl,((Below.refl _ _).alloc (zsa _) _).alloc (by simp) _⟩
 ·have hb:(mn==1)=false:=zsk.2 h;clear h h1
  go_enter Tryz.func100,Tryz.ntmps100
  go_wp2;go_ret;exact⟨rfl,((Below.refl _ _).alloc (zsa _) _).alloc (by simp) _⟩
theorem ziA(t:TypeId)(x:Value)(imn imx mn mx:Int)(w:World)(h1:¬(mn=1/\mx=1)):
  Calls Tryz.prog 100 #[.iface 121 (.agg #[.iface t x,.int .i64 imn,.int .i64 imx]),.int .i64 mn,.int .i64 mx] w fun e w'=>
   (e=.returned (if zbu imn imx=true/\zbu mn mx=true then .iface 121 (.agg #[.iface t x,.int .i64 0,.int .i64 (if imx<=mx then imx else mx)]) else .iface 121 (.agg #[.iface 121 (.agg #[.iface t x,.int .i64 imn,.int .i64 imx]),.int .i64 mn,.int .i64 mx])))/\Below w.heap.size w w':=by
 have ho:=zpk;have hsplit:(mn=1/\(mx==1)=false)\/(mn==1)=false:=by
  by_cases h:mn=1
  ·exact .inl ⟨h,zsk.2 (fun e=>h1 ⟨h,e⟩)⟩
  ·exact .inr (zsk.2 h)
 clear h1
 by_cases hA:zbu imn imx=true
 ·by_cases hB:zbu mn mx=true
  ·rw[zst ⟨hA,hB⟩];have hmn:mn=0:=by simp[zbu] at hB;exact hB.1
   subst hmn;clear hsplit
   by_cases hle:imx<=mx
   all_goals
    go_enter Tryz.func100,Tryz.ntmps100
    go_wp2_with fail
    refine(zcD _ imn imx _).mono ?_;rintro e w2 ⟨rfl,hb2⟩;obtain⟨hcc,hff⟩:=zdI hb2;have hbb:=(((Below.refl w.heap.size w).alloc (zsa _) _).alloc (by simp) _).trans (hb2.mono (by simp;omega));have hz:=hb2.size;clear hb2
    go_wp2_with fail
    refine(zcD _ 0 mx _).mono ?_;rintro e w3 ⟨rfl,hb3⟩;have hcc3:∀b o,b<w.heap.size+1+1->w3.cell? ⟨b,o,none⟩=w2.cell? ⟨b,o,none⟩:=fun b o hb=>hb3.cell (p:=⟨b,o,none⟩) (zsc hb (by simpa using hz))
    have hbb3:=hbb.trans (hb3.mono (zsb (by simp;omega) hz));clear hb3 hbb;go_wp2;go_ret;exact⟨rfl,hbb3⟩
  ·rw[zss (fun h=>hB h.2)];have hB':zbu mn mx=false:=by simpa using hB
   clear hB;rcases hsplit with ⟨rfl,hm⟩|hm
   all_goals
    go_enter Tryz.func100,Tryz.ntmps100
    go_wp2_with fail
    refine(zcD _ imn imx _).mono ?_;rintro e w2 ⟨rfl,hb2⟩;obtain⟨hcc,hff⟩:=zdI hb2;have hbb:=(((Below.refl w.heap.size w).alloc (zsa _) _).alloc (by simp) _).trans (hb2.mono (by simp;omega));have hz:=hb2.size;clear hb2
    go_wp2_with fail
    refine(zcD _ _ mx _).mono ?_;rintro e w3 ⟨rfl,hb3⟩;have hcc3:∀b o,b<w.heap.size+1+1->w3.cell? ⟨b,o,none⟩=w2.cell? ⟨b,o,none⟩:=fun b o hb=>hb3.cell (p:=⟨b,o,none⟩) (zsc hb (by simpa using hz))
    have hbb3:=hbb.trans (hb3.mono (zsb (by simp;omega) hz));clear hb3 hbb;go_wp2;go_ret;exact⟨rfl,hbb3⟩
 ·rw[zss (fun h=>hA h.1)];have hA':zbu imn imx=false:=by simpa using hA
  clear hA;rcases hsplit with ⟨rfl,hm⟩|hm
  all_goals
   go_enter Tryz.func100,Tryz.ntmps100
   go_wp2_with fail
   refine(zcD _ imn imx _).mono ?_;rintro e w2 ⟨rfl,hb2⟩;obtain⟨hcc,hff⟩:=zdI hb2;have hbb:=(((Below.refl w.heap.size w).alloc (zsa _) _).alloc (by simp) _).trans (hb2.mono (by simp;omega));clear hb2;go_wp2;go_ret;exact⟨rfl,hbb⟩
theorem zc7(h:zbu mn mx=true):zaL mn mx=1:=by
 simp[zbu] at h;obtain⟨rfl,h|h⟩:=h<;>subst h<;>rfl
theorem zfC{imn imx:Int}(h1:zbu imn imx=true)(h2:zbu mn mx=true):zbu 0 (if imx<=mx then imx else mx)=true:=by
 simp[zbu] at *;split<;>omega
theorem zie(h:zbu 0 mx=true):zaD 0 mx=true:=by
 simp[zbu] at h;simp[zaD];omega
end
section
attribute [local go_sem ↓] Go.wp_at_zero Go.wp_at_succ
theorem zdm{P:Program}{ops:Array Oper}{rest:List Oper}{o:Oper}{a:Act}{w:World}{Q:Exit->Act->World->Prop}(hg:o.guard=none)(t:TypeId)(parts:Array (Nat×Operand))(ho:o.op=.build t parts)
  (vals:List (Nat×Value)) (hv:(parts.map fun(i,x)=>(i,a.eval x)).toList=vals) (cells:Array Value) (hb:P.built t vals=some cells) (h:wpList P ops Q rest (a.put o.dst (.agg cells)) w):wpList P ops Q (o::rest) a w:=by
 subst hv;refine wpList_build hg t parts ho (by rw[hb];rfl) ?_;rw[hb];exact h
theorem zku{lo:Nat}(tv v:Value)(rs:List (Int×Int))(w:World)(hs:zag lo w v rs)(hok:zaZ 0 rs=true):
  Calls Tryz.prog 78 #[.agg #[.int .i64 1,v,.int .i64 0,.int .i64 0,.int .i64 0],tv] w fun e w'=>∃mg:Nat,e=.returned (.iface 201 (.agg #[.pointer (some ⟨mg,0,none⟩)]))/\w.heap.size<=mg/\w'.heap[mg]?=some (.cells (zao (zcH rs)) 197 (0,0))/\Below w.heap.size w w':=by
 have hzv:=(zero_of_info Tryz.zeroMarks).1;have hzi:Hid _:=(zero_of_info Tryz.zeroMarks).2
 go_enter Tryz.func78,Tryz.ntmps78
 go_wp2_with fail
 refine(zlw (lo:=lo) _ rs _ (hs.below ?_) hok).mono ?_
 ·exact(Below.refl _ _).alloc (zsa _) _
 rintro e w2 ⟨rfl,hb2⟩
 go_wp2_with (refine wpList_store_row rfl 197 (.tmp 5) _ rfl w2.heap.size _ rfl rfl 197 _ (zsp _ _) (by rw[zau];exact hzi.out) (by rw[zau,zau]) (zbX _) ?_)
 go_ret
 have hz2:=hb2.size;have hB:=zaa ((Below.refl w.heap.size w).alloc (zsa _) _) (by simp) hb2;exact⟨_,rfl,hB.size,setRow_heap _ _ _ _ _ _ (zsp _ _),Below.setRow (hB.alloc hB.size _) hB.size _⟩
theorem zoH(sv x y:Value)(t u:TypeId)(g o c:Nat)(w:World)(c0:w.cell? ⟨g,o,none⟩=some (.iface t x))(c1:w.cell? ⟨g,o+1,none⟩=some (.iface u y)):
  Calls Tryz.prog 78 #[.agg #[.int .i64 2,sv,.int .i64 0,.int .i64 0,.int .i64 0],.slice (some ⟨g,o,none⟩) 2 c] w fun e w'=>e=.returned (.iface 116 (.agg #[.iface t x,.iface u y]))/\Below w.heap.size w w':=by
 have hg:g<w.heap.size:=block_lt_of_cell c0
 go_enter Tryz.func78,Tryz.ntmps78
 go_wp2
 go_quiet (fail)
 go_wp2;go_ret;exact⟨rfl,below_drewN ((Below.refl _ _).alloc (zsa _) _) _⟩
theorem zoF(sv x y:Value)(t u:TypeId)(g o c:Nat)(w:World)(c0:w.cell? ⟨g,o,none⟩=some (.iface t x))(c1:w.cell? ⟨g,o+1,none⟩=some (.iface u y)):
  Calls Tryz.prog 78 #[.agg #[.int .i64 3,sv,.int .i64 0,.int .i64 0,.int .i64 0],.slice (some ⟨g,o,none⟩) 2 c] w fun e w'=>e=.returned (.iface 118 (.agg #[.iface t x,.iface u y]))/\Below w.heap.size w w':=by
 have hg:g<w.heap.size:=block_lt_of_cell c0
 go_enter Tryz.func78,Tryz.ntmps78
 go_wp2
 go_quiet (fail)
 go_wp2;go_ret;exact⟨rfl,below_drewN ((Below.refl _ _).alloc (zsa _) _) _⟩
theorem zoG(sv x:Value)(t:TypeId)(gr:Int)(g o c:Nat)(w:World)(c0:w.cell? ⟨g,o,none⟩=some (.iface t x)):
  Calls Tryz.prog 78 #[.agg #[.int .i64 5,sv,.int .i64 0,.int .i64 0,.int .i64 gr],.slice (some ⟨g,o,none⟩) 1 c] w fun e w'=>e=.returned (.iface 124 (.agg #[.iface t x,.int .i64 gr]))/\Below w.heap.size w w':=by
 have hg:g<w.heap.size:=block_lt_of_cell c0
 go_enter Tryz.func78,Tryz.ntmps78
 go_wp2
 go_quiet (fail)
 go_wp2;go_ret;exact⟨rfl,below_drewN ((Below.refl _ _).alloc (zsa _) _) _⟩
end
def zcb(n:zak)(args:List Int):Int:=
 if n.kind=1 then 1
 else if n.kind=2\/n.kind=3 then capW (args.getD 0 0+args.getD 1 0)
 else if n.kind=4 then capW (args.getD 0 0*zaL n.min n.max)
 else args.getD 0 0
def zgm(st:List Int)(n:zak):List Int:=st.take (st.length-zaA n.kind)++[zcb n (st.drop (st.length-zaA n.kind))]
def zcw:List zak->List Int->Option (List Int)
 |[],st=>some st
 |n::ns,st=>if st.length<zaA n.kind\/zav n=false then none else zcw ns (zgm st n)
def zd5(ns:List zak):Option Int:=match zcw ns [] with
 |some [wt]=>some wt
 |_=>none
theorem zgI(ns:List zak)(i:Nat)(hi:i<ns.length)(st:List Int)(nd:zak)(h:ns.getD i .zero=nd):
  zcw (ns.drop i) st=if st.length<zaA nd.kind\/zav nd=false then none else zcw (ns.drop (i+1)) (zgm st nd):=by
 rw[zrp hi];have:ns[i]=nd:=by rw[<-h];simp[List.getD,hi]
 rw[this]
 rfl
def ziV(N:Nat)(xs:List Value)(st:List Int):Prop:=xs.length=st.length/\∀j,j<st.length->∃t x,xs[j]?=some (.iface t x)/\zaV N (.iface t x) (st.getD j 0)
end Go.Proofs.YthdljcdbfmhleaaGreatDoor
