import Derived.Test.YtdimhpfiieepiaaGreatDoorC4
import Derived.Deep.QuietTactic
import Derived.BigQuiet
import Derived.Deep.AppendLies
namespace Go.Proofs.YtdimhpfiieepiaaGreatDoor
set_option maxHeartbeats 400000
set_option maxRecDepth 100000
open Go.RowKit
section
variable{n mn mx:Int}
def zbd:Nat->Value->Int->Prop
 |0,_,_=>False
 |n+1,v,wt=>
  (∃x,v=.iface 297 (.agg #[x])/\wt=1)\/
  (∃l r a b,v=.iface 256 (.agg #[l,r])/\zbd n l a/\zbd n r b/\wt=capW (a+b))\/
  (∃l r a b,v=.iface 258 (.agg #[l,r])/\zbd n l a/\zbd n r b/\wt=capW (a+b))\/
  (∃l a mn mx,v=.iface 261 (.agg #[l,.int .i64 mn,.int .i64 mx])/\zbd n l a/\zaM mn mx=true/\wt=capW (a*zaV mn mx))\/
  (∃l g,v=.iface 264 (.agg #[l,.int .i64 g])/\zbd n l wt)
theorem zdF(h:1<=n):1<=capW n/\capW n<=2001:=by unfold capW;split<;>omega
theorem zeH(h:n<=2001):capW n=n:=by unfold capW;rw[zv3 h]
theorem zbd.facts:∀(n:Nat) (v:Value) (wt:Int),zbd n v wt->zcM v wt/\1<=wt/\wt<=2001
 |0,_,_,h=>h.elim
 |n+1,v,wt,h=>by
  rcases h with ⟨f,rfl,rfl⟩|⟨l,r,a,b,rfl,hl,hr,rfl⟩|⟨l,r,a,b,rfl,hl,hr,rfl⟩|⟨l,a,mn,mx,rfl,hl,hb,rfl⟩|⟨l,g,rfl,hl⟩
  ·exact⟨ziJ f,by omega,by omega⟩
  ·obtain⟨h1,h2,h3⟩:=zbd.facts n l a hl;obtain⟨k1,k2,k3⟩:=zbd.facts n r b hr;exact⟨ziI l r a b h1 k1 (by omega) h3 (by omega) k3,zdF (by omega)⟩
  ·obtain⟨h1,h2,h3⟩:=zbd.facts n l a hl;obtain⟨k1,k2,k3⟩:=zbd.facts n r b hr;exact⟨ziF l r a b h1 k1 (by omega) h3 (by omega) k3,zdF (by omega)⟩
  ·obtain⟨h1,h2,h3⟩:=zbd.facts n l a hl;have hc:=zcZ hb;exact⟨ziH l a mn mx h1 (by omega) h3 hb,zdF (Int.mul_le_mul h2 hc.1 (by omega) (by omega) |> fun h=>by simpa using h)⟩
  ·obtain⟨h1,h2,h3⟩:=zbd.facts n l wt hl;exact⟨ziG l g wt h1,h2,h3⟩
theorem zbd.mono:∀(n m:Nat) (v:Value) (wt:Int),n<=m->zbd n v wt->zbd m v wt
 |0,_,_,_,_,h=>h.elim
 |_+1,0,_,_,hnm,_=>absurd hnm (Nat.not_succ_le_zero _)
 |n+1,m+1,v,wt,hnm,h=>by
  have hnm':n<=m:=Nat.le_of_succ_le_succ hnm;rcases h with ⟨f,rfl,rfl⟩|⟨l,r,a,b,rfl,hl,hr,rfl⟩|⟨l,r,a,b,rfl,hl,hr,rfl⟩|⟨l,a,mn,mx,rfl,hl,hb,rfl⟩|⟨l,g,rfl,hl⟩
  ·exact .inl ⟨f,rfl,rfl⟩
  ·exact .inr (.inl ⟨l,r,a,b,rfl,zbd.mono n m l a hnm' hl,zbd.mono n m r b hnm' hr,rfl⟩)
  ·exact .inr (.inr (.inl ⟨l,r,a,b,rfl,zbd.mono n m l a hnm' hl,zbd.mono n m r b hnm' hr,rfl⟩))
  ·exact .inr (.inr (.inr (.inl ⟨l,a,mn,mx,rfl,zbd.mono n m l a hnm' hl,hb,rfl⟩)))
  ·exact .inr (.inr (.inr (.inr ⟨l,g,rfl,zbd.mono n m l wt hnm' hl⟩)))
theorem zkz(v:Value)(w:World)(t:TypeId)(x:Value)(hv:v=.iface t x):
  Calls Tryz.prog 178 #[v,.int .i64 1,.int .i64 1] w fun e w'=>e=.returned v/\Below w.heap.size w w':=by
 subst hv
 go_enter Tryz.func178,Tryz.ntmps178
 go_wp2;go_ret;exact⟨rfl,Below.refl _ _⟩
def zc3(t:TypeId)(x:Value):Prop:=∀w,(Instr.typeAssert (.iface t x) 184 261 true).run Tryz.prog w=.ok (.tuple #[.agg #[.nilIface,.int .i64 0,.int .i64 0],.bool false]) w
theorem zp7(x:Value):zc3 297 x:=fun w=>by kernel_rfl
theorem zp6(x:Value):zc3 256 x:=fun w=>by kernel_rfl
theorem zp4(x:Value):zc3 258 x:=fun w=>by kernel_rfl
theorem zp5(x:Value):zc3 264 x:=fun w=>by kernel_rfl
theorem zsq(x:Value)(w:World):(Instr.typeAssert (.iface 261 x) 184 261 true).run Tryz.prog w=.ok (.tuple #[x,.bool true]) w:=by kernel_rfl
theorem zhW(t:TypeId)(x:Value)(ho:zc3 t x)(mn mx:Int)(w:World)(h1:¬(mn=1/\mx=1)):
  Calls Tryz.prog 178 #[.iface t x,.int .i64 mn,.int .i64 mx] w fun e w'=>e=.returned (.iface 261 (.agg #[.iface t x,.int .i64 mn,.int .i64 mx]))/\Below w.heap.size w w':=by
 unfold zc3 at ho
 by_cases h:mn=1
 ·subst h;have hb:(mx==1)=false:=zvU.2 (by simpa using h1);clear h1
  go_enter Tryz.func178,Tryz.ntmps178
  go_wp2;go_ret;exact⟨rfl,((Below.refl _ _).alloc (zvJ _) _).alloc (by simp) _⟩
 ·have hb:(mn==1)=false:=zvU.2 h;clear h h1
  go_enter Tryz.func178,Tryz.ntmps178
  go_wp2;go_ret;exact⟨rfl,((Below.refl _ _).alloc (zvJ _) _).alloc (by simp) _⟩
theorem zkA(t:TypeId)(x:Value)(imn imx mn mx:Int)(w:World)(h1:¬(mn=1/\mx=1)):
  Calls Tryz.prog 178 #[.iface 261 (.agg #[.iface t x,.int .i64 imn,.int .i64 imx]),.int .i64 mn,.int .i64 mx] w fun e w'=>
   (e=.returned (if zbS imn imx=true/\zbS mn mx=true then .iface 261 (.agg #[.iface t x,.int .i64 0,.int .i64 (if imx<=mx then imx else mx)]) else .iface 261 (.agg #[.iface 261 (.agg #[.iface t x,.int .i64 imn,.int .i64 imx]),.int .i64 mn,.int .i64 mx])))/\Below w.heap.size w w':=by
 have ho:=zsq;have hsplit:(mn=1/\(mx==1)=false)\/(mn==1)=false:=by
  by_cases h:mn=1
  ·exact .inl ⟨h,zvU.2 (fun e=>h1 ⟨h,e⟩)⟩
  ·exact .inr (zvU.2 h)
 clear h1
 by_cases hA:zbS imn imx=true
 ·by_cases hB:zbS mn mx=true
  ·rw[zv3 ⟨hA,hB⟩];have hmn:mn=0:=by simp[zbS] at hB;exact hB.1
   subst hmn;clear hsplit
   by_cases hle:imx<=mx
   all_goals
    go_enter Tryz.func178,Tryz.ntmps178
    go_wp2_with fail
    refine(zdv _ imn imx _).mono ?_;rintro e w2 ⟨rfl,hb2⟩;obtain⟨hcc,hff⟩:=zfA hb2;have hbb:=(((Below.refl w.heap.size w).alloc (zvJ _) _).alloc (by simp) _).trans (hb2.mono (by simp;omega));have hz:=hb2.size;clear hb2
    go_wp2_with fail
    refine(zdv _ 0 mx _).mono ?_;rintro e w3 ⟨rfl,hb3⟩;have hcc3:∀b o,b<w.heap.size+1+1->w3.cell? ⟨b,o,none⟩=w2.cell? ⟨b,o,none⟩:=fun b o hb=>hb3.cell (p:=⟨b,o,none⟩) (zvL hb (by simpa using hz))
    have hbb3:=hbb.trans (hb3.mono (zvK (by simp;omega) hz));clear hb3 hbb;go_wp2;go_ret;exact⟨rfl,hbb3⟩
  ·rw[zv2 (fun h=>hB h.2)];have hB':zbS mn mx=false:=by simpa using hB
   clear hB;rcases hsplit with ⟨rfl,hm⟩|hm
   all_goals
    go_enter Tryz.func178,Tryz.ntmps178
    go_wp2_with fail
    refine(zdv _ imn imx _).mono ?_;rintro e w2 ⟨rfl,hb2⟩;obtain⟨hcc,hff⟩:=zfA hb2;have hbb:=(((Below.refl w.heap.size w).alloc (zvJ _) _).alloc (by simp) _).trans (hb2.mono (by simp;omega));have hz:=hb2.size;clear hb2
    go_wp2_with fail
    refine(zdv _ _ mx _).mono ?_;rintro e w3 ⟨rfl,hb3⟩;have hcc3:∀b o,b<w.heap.size+1+1->w3.cell? ⟨b,o,none⟩=w2.cell? ⟨b,o,none⟩:=fun b o hb=>hb3.cell (p:=⟨b,o,none⟩) (zvL hb (by simpa using hz))
    have hbb3:=hbb.trans (hb3.mono (zvK (by simp;omega) hz));clear hb3 hbb;go_wp2;go_ret;exact⟨rfl,hbb3⟩
 ·rw[zv2 (fun h=>hA h.1)];have hA':zbS imn imx=false:=by simpa using hA
  clear hA;rcases hsplit with ⟨rfl,hm⟩|hm
  all_goals
   go_enter Tryz.func178,Tryz.ntmps178
   go_wp2_with fail
   refine(zdv _ imn imx _).mono ?_;rintro e w2 ⟨rfl,hb2⟩;obtain⟨hcc,hff⟩:=zfA hb2;have hbb:=(((Below.refl w.heap.size w).alloc (zvJ _) _).alloc (by simp) _).trans (hb2.mono (by simp;omega));clear hb2;go_wp2;go_ret;exact⟨rfl,hbb⟩
theorem zd0(h:zbS mn mx=true):zaV mn mx=1:=by
 simp[zbS] at h;obtain⟨rfl,h|h⟩:=h<;>subst h<;>rfl
theorem zgV{imn imx:Int}(h1:zbS imn imx=true)(h2:zbS mn mx=true):zbS 0 (if imx<=mx then imx else mx)=true:=by
 simp[zbS] at *;split<;>omega
theorem zke(h:zbS 0 mx=true):zaM 0 mx=true:=by
 simp[zbS] at h;simp[zaM];omega
end
section
attribute [local go_sem ↓] Go.wp_at_zero Go.wp_at_succ
theorem zek{P:Program}{ops:Array Oper}{rest:List Oper}{o:Oper}{a:Act}{w:World}{Q:Exit->Act->World->Prop}(hg:o.guard=none)(t:TypeId)(parts:Array (Nat×Operand))(ho:o.op=.build t parts)
  (vals:List (Nat×Value)) (hv:(parts.map fun(i,x)=>(i,a.eval x)).toList=vals) (cells:Array Value) (hb:P.built t vals=some cells) (h:wpList P ops Q rest (a.put o.dst (.agg cells)) w):wpList P ops Q (o::rest) a w:=by
 subst hv;refine wpList_build hg t parts ho (by rw[hb];rfl) ?_;rw[hb];exact h
theorem zmH{lo:Nat}(tv v:Value)(rs:List (Int×Int))(w:World)(hs:zal lo w v rs)(hok:zbh 0 rs=true):
  Calls Tryz.prog 157 #[.agg #[.int .i64 1,v,.int .i64 0,.int .i64 0,.int .i64 0],tv] w fun e w'=>∃mg:Nat,e=.returned (.iface 297 (.agg #[.pointer (some ⟨mg,0,none⟩)]))/\w.heap.size<=mg/\w'.heap[mg]?=some (.cells (zas (zdz rs)) 293 (0,0))/\Below w.heap.size w w':=by
 have hzv:=(zero_of_info Tryz.zeroMarks).1;have hzi:Hid _:=(zero_of_info Tryz.zeroMarks).2
 go_enter Tryz.func157,Tryz.ntmps157
 go_wp2_with fail
 refine(znW (lo:=lo) _ rs _ (hs.below ?_) hok).mono ?_
 ·exact(Below.refl _ _).alloc (zvJ _) _
 rintro e w2 ⟨rfl,hb2⟩
 go_wp2_with (refine wpList_store_row rfl 293 (.tmp 5) _ rfl w2.heap.size _ rfl rfl 293 _ (zvZ _ _) (by rw[zaA];exact hzi.out) (by rw[zaA,zaA]) (zcB _) ?_)
 go_ret
 have hz2:=hb2.size;have hB:=zaa ((Below.refl w.heap.size w).alloc (zvJ _) _) (by simp) hb2;exact⟨_,rfl,hB.size,setRow_heap _ _ _ _ _ _ (zvZ _ _),Below.setRow (hB.alloc hB.size _) hB.size _⟩
theorem zrD(sv x y:Value)(t u:TypeId)(g o c:Nat)(w:World)(c0:w.cell? ⟨g,o,none⟩=some (.iface t x))(c1:w.cell? ⟨g,o+1,none⟩=some (.iface u y)):
  Calls Tryz.prog 157 #[.agg #[.int .i64 2,sv,.int .i64 0,.int .i64 0,.int .i64 0],.slice (some ⟨g,o,none⟩) 2 c] w fun e w'=>e=.returned (.iface 256 (.agg #[.iface t x,.iface u y]))/\Below w.heap.size w w':=by
 have hg:g<w.heap.size:=block_lt_of_cell c0
 go_enter Tryz.func157,Tryz.ntmps157
 go_wp2
 go_quiet (fail)
 go_wp2;go_ret;exact⟨rfl,below_drewN ((Below.refl _ _).alloc (zvJ _) _) _⟩
theorem zrB(sv x y:Value)(t u:TypeId)(g o c:Nat)(w:World)(c0:w.cell? ⟨g,o,none⟩=some (.iface t x))(c1:w.cell? ⟨g,o+1,none⟩=some (.iface u y)):
  Calls Tryz.prog 157 #[.agg #[.int .i64 3,sv,.int .i64 0,.int .i64 0,.int .i64 0],.slice (some ⟨g,o,none⟩) 2 c] w fun e w'=>e=.returned (.iface 258 (.agg #[.iface t x,.iface u y]))/\Below w.heap.size w w':=by
 have hg:g<w.heap.size:=block_lt_of_cell c0
 go_enter Tryz.func157,Tryz.ntmps157
 go_wp2
 go_quiet (fail)
 go_wp2;go_ret;exact⟨rfl,below_drewN ((Below.refl _ _).alloc (zvJ _) _) _⟩
theorem zrC(sv x:Value)(t:TypeId)(gr:Int)(g o c:Nat)(w:World)(c0:w.cell? ⟨g,o,none⟩=some (.iface t x)):
  Calls Tryz.prog 157 #[.agg #[.int .i64 5,sv,.int .i64 0,.int .i64 0,.int .i64 gr],.slice (some ⟨g,o,none⟩) 1 c] w fun e w'=>e=.returned (.iface 264 (.agg #[.iface t x,.int .i64 gr]))/\Below w.heap.size w w':=by
 have hg:g<w.heap.size:=block_lt_of_cell c0
 go_enter Tryz.func157,Tryz.ntmps157
 go_wp2
 go_quiet (fail)
 go_wp2;go_ret;exact⟨rfl,below_drewN ((Below.refl _ _).alloc (zvJ _) _) _⟩
end
def zcT(n:zaq)(args:List Int):Int:=
 if n.kind=1 then 1
 else if n.kind=2\/n.kind=3 then capW (args.getD 0 0+args.getD 1 0)
 else if n.kind=4 then capW (args.getD 0 0*zaV n.min n.max)
 else args.getD 0 0
def zhH(st:List Int)(n:zaq):List Int:=st.take (st.length-zaE n.kind)++[zcT n (st.drop (st.length-zaE n.kind))]
def zdo:List zaq->List Int->Option (List Int)
 |[],st=>some st
 |n::ns,st=>if st.length<zaE n.kind\/zaB n=false then none else zdo ns (zhH st n)
def ze8(ns:List zaq):Option Int:=match zdo ns [] with
 |some [wt]=>some wt
 |_=>none
theorem zim(ns:List zaq)(i:Nat)(hi:i<ns.length)(st:List Int)(nd:zaq)(h:ns.getD i .zero=nd):
  zdo (ns.drop i) st=if st.length<zaE nd.kind\/zaB nd=false then none else zdo (ns.drop (i+1)) (zhH st nd):=by
 rw[zuV hi];have:ns[i]=nd:=by rw[<-h];simp[List.getD,hi]
 rw[this]
 rfl
def znm(N:Nat)(xs:List Value)(st:List Int):Prop:=xs.length=st.length/\∀j,j<st.length->∃t x,xs[j]?=some (.iface t x)/\zbd N (.iface t x) (st.getD j 0)
end Go.Proofs.YtdimhpfiieepiaaGreatDoor
