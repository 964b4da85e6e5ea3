import Derived.Test.YthddplbodacjgaaGreatDoorC3
import Derived.Deep.QuietTactic
import Derived.BigQuiet
import Derived.Deep.AppendLies
namespace Go.Proofs.YthddplbodacjgaaGreatDoor
set_option maxHeartbeats 400000
set_option maxRecDepth 100000
open Go.RowKit
section
variable {n mn mx:Int}
def zbk:Nat->Value->Int->Prop
 |0,_,_=>False
 |n+1,v,wt=>
  (∃x,v=.iface 165 (.agg #[x])/\wt=1)\/
  (∃l r a b,v=.iface 168 (.agg #[l,r])/\zbk n l a/\zbk n r b/\wt=capW (a+b))\/
  (∃l r a b,v=.iface 170 (.agg #[l,r])/\zbk n l a/\zbk n r b/\wt=capW (a+b))\/
  (∃l a mn mx,v=.iface 172 (.agg #[l,.int .i64 mn,.int .i64 mx])/\zbk n l a/\zaY mn mx=true/\wt=capW (a*za2 mn mx))\/
  (∃l g,v=.iface 175 (.agg #[l,.int .i64 g])/\zbk n l wt)
theorem zdV(h:1<=n):1<=capW n/\capW n<=2001:=by unfold capW;split<;>omega
theorem zeN(h:n<=2001):capW n=n:=by unfold capW;rw[zuV h]
theorem zbk.facts:∀(n:Nat) (v:Value) (wt:Int),zbk n v wt->zc8 v wt/\1<=wt/\wt<=2001
 |0,_,_,h=>h.elim
 |n+1,v,wt,h=>by
  rcases h with ⟨f,rfl,rfl⟩|⟨l,r,a,b,rfl,hl,hr,rfl⟩|⟨l,r,a,b,rfl,hl,hr,rfl⟩|⟨l,a,mn,mx,rfl,hl,hb,rfl⟩|⟨l,g,rfl,hl⟩
  ·exact⟨znT f,by omega,by omega⟩
  ·obtain⟨h1,h2,h3⟩:=zbk.facts n l a hl;obtain⟨k1,k2,k3⟩:=zbk.facts n r b hr;exact⟨znS l r a b h1 k1 (by omega) h3 (by omega) k3,zdV (by omega)⟩
  ·obtain⟨h1,h2,h3⟩:=zbk.facts n l a hl;obtain⟨k1,k2,k3⟩:=zbk.facts n r b hr;exact⟨znP l r a b h1 k1 (by omega) h3 (by omega) k3,zdV (by omega)⟩
  ·obtain⟨h1,h2,h3⟩:=zbk.facts n l a hl;have hc:=zdC hb;exact⟨znR l a mn mx h1 (by omega) h3 hb,zdV (ztA h2 hc.1 (by omega) (by omega) |> fun h=>by simpa using h)⟩
  ·obtain⟨h1,h2,h3⟩:=zbk.facts n l wt hl;exact⟨znQ l g wt h1,h2,h3⟩
theorem zbk.mono:∀(n m:Nat) (v:Value) (wt:Int),n<=m->zbk n v wt->zbk m v wt
 |0,_,_,_,_,h=>h.elim
 |_+1,0,_,_,hnm,_=>absurd hnm (Nat.not_succ_le_zero _)
 |n+1,m+1,v,wt,hnm,h=>by
  have hnm':n<=m:=Nat.le_of_succ_le_succ hnm;rcases h with ⟨f,rfl,rfl⟩|⟨l,r,a,b,rfl,hl,hr,rfl⟩|⟨l,r,a,b,rfl,hl,hr,rfl⟩|⟨l,a,mn,mx,rfl,hl,hb,rfl⟩|⟨l,g,rfl,hl⟩
  ·exact .inl ⟨f,rfl,rfl⟩
  ·exact .inr (.inl ⟨l,r,a,b,rfl,zbk.mono n m l a hnm' hl,zbk.mono n m r b hnm' hr,rfl⟩)
  ·exact .inr (.inr (.inl ⟨l,r,a,b,rfl,zbk.mono n m l a hnm' hl,zbk.mono n m r b hnm' hr,rfl⟩))
  ·exact .inr (.inr (.inr (.inl ⟨l,a,mn,mx,rfl,zbk.mono n m l a hnm' hl,hb,rfl⟩)))
  ·exact .inr (.inr (.inr (.inr ⟨l,g,rfl,zbk.mono n m l wt hnm' hl⟩)))
theorem zj3(v:Value)(w:World)(t:TypeId)(x:Value)(hv:v=.iface t x):
  Calls Tryz.prog 119 #[v,.int .i64 1,.int .i64 1] w fun e w'=>e=.returned v/\Below w.heap.size w w':=by
 subst hv
 go_enter Tryz.func119,Tryz.ntmps119
 go_wp2;go_ret;exact⟨rfl,Below.refl _ _⟩
def zde(t:TypeId)(x:Value):Prop:=∀w,(Instr.typeAssert (.iface t x) 118 172 true).run Tryz.prog w=.ok (.tuple #[.agg #[.nilIface,.int .i64 0,.int .i64 0],.bool false]) w
theorem zoZ(x:Value):zde 165 x:=fun w=>by kernel_rfl
theorem zoY(x:Value):zde 168 x:=fun w=>by kernel_rfl
theorem zoW(x:Value):zde 170 x:=fun w=>by kernel_rfl
theorem zoX(x:Value):zde 175 x:=fun w=>by kernel_rfl
theorem zrl(x:Value)(w:World):(Instr.typeAssert (.iface 172 x) 118 172 true).run Tryz.prog w=.ok (.tuple #[x,.bool true]) w:=by kernel_rfl
theorem zhC(t:TypeId)(x:Value)(ho:zde t x)(mn mx:Int)(w:World)(h1:¬(mn=1/\mx=1)):
  Calls Tryz.prog 119 #[.iface t x,.int .i64 mn,.int .i64 mx] w fun e w'=>e=.returned (.iface 172 (.agg #[.iface t x,.int .i64 mn,.int .i64 mx]))/\Below w.heap.size w w':=by
 unfold zde at ho
 by_cases h:mn=1
 ·subst h;have hb:(mx==1)=false:=zuM.2 (by simpa using h1);clear h1
  go_enter Tryz.func119,Tryz.ntmps119
  go_wp2;go_ret;exact⟨rfl,((Below.refl _ _).alloc (zuz _) _).alloc (by simp) _⟩
 ·have hb:(mn==1)=false:=zuM.2 h;clear h h1
  go_enter Tryz.func119,Tryz.ntmps119
  go_wp2;go_ret;exact⟨rfl,((Below.refl _ _).alloc (zuz _) _).alloc (by simp) _⟩
theorem zj4(t:TypeId)(x:Value)(imn imx mn mx:Int)(w:World)(h1:¬(mn=1/\mx=1)):
  Calls Tryz.prog 119 #[.iface 172 (.agg #[.iface t x,.int .i64 imn,.int .i64 imx]),.int .i64 mn,.int .i64 mx] w fun e w'=>
   (e=.returned (if zcU imn imx=true/\zcU mn mx=true then .iface 172 (.agg #[.iface t x,.int .i64 0,.int .i64 (if imx<=mx then imx else mx)]) else .iface 172 (.agg #[.iface 172 (.agg #[.iface t x,.int .i64 imn,.int .i64 imx]),.int .i64 mn,.int .i64 mx])))/\Below w.heap.size w w':=by
 have ho:=zrl;have hsplit:(mn=1/\(mx==1)=false)\/(mn==1)=false:=by
  by_cases h:mn=1
  ·exact .inl ⟨h,zuM.2 (fun e=>h1 ⟨h,e⟩)⟩
  ·exact .inr (zuM.2 h)
 clear h1
 by_cases hA:zcU imn imx=true
 ·by_cases hB:zcU mn mx=true
  ·rw[zuV ⟨hA,hB⟩];have hmn:mn=0:=by simp[zcU] at hB;exact hB.1
   subst hmn;clear hsplit
   by_cases hle:imx<=mx
   all_goals
    go_enter Tryz.func119,Tryz.ntmps119
    go_wp2_with fail
    refine(zdH _ imn imx _).mono ?_;rintro e w2 ⟨rfl,hb2⟩;obtain⟨hcc,hff⟩:=zfX hb2;have hbb:=(((Below.refl w.heap.size w).alloc (zuz _) _).alloc (by simp) _).trans (hb2.mono (by simp;omega));have hz:=hb2.size;clear hb2
    go_wp2_with fail
    refine(zdH _ 0 mx _).mono ?_;rintro e w3 ⟨rfl,hb3⟩;have hcc3:∀b o,b<w.heap.size+1+1->w3.cell? ⟨b,o,none⟩=w2.cell? ⟨b,o,none⟩:=fun b o hb=>hb3.cell (p:=⟨b,o,none⟩) (zuB hb (by simpa using hz))
    have hbb3:=hbb.trans (hb3.mono (zuA (by simp;omega) hz));clear hb3 hbb;go_wp2;go_ret;exact⟨rfl,hbb3⟩
  ·rw[zuU (fun h=>hB h.2)];have hB':zcU mn mx=false:=by simpa using hB
   clear hB;rcases hsplit with ⟨rfl,hm⟩|hm
   all_goals
    go_enter Tryz.func119,Tryz.ntmps119
    go_wp2_with fail
    refine(zdH _ imn imx _).mono ?_;rintro e w2 ⟨rfl,hb2⟩;obtain⟨hcc,hff⟩:=zfX hb2;have hbb:=(((Below.refl w.heap.size w).alloc (zuz _) _).alloc (by simp) _).trans (hb2.mono (by simp;omega));have hz:=hb2.size;clear hb2
    go_wp2_with fail
    refine(zdH _ _ mx _).mono ?_;rintro e w3 ⟨rfl,hb3⟩;have hcc3:∀b o,b<w.heap.size+1+1->w3.cell? ⟨b,o,none⟩=w2.cell? ⟨b,o,none⟩:=fun b o hb=>hb3.cell (p:=⟨b,o,none⟩) (zuB hb (by simpa using hz))
    have hbb3:=hbb.trans (hb3.mono (zuA (by simp;omega) hz));clear hb3 hbb;go_wp2;go_ret;exact⟨rfl,hbb3⟩
 ·rw[zuU (fun h=>hA h.1)];have hA':zcU imn imx=false:=by simpa using hA
  clear hA;rcases hsplit with ⟨rfl,hm⟩|hm
  all_goals
   go_enter Tryz.func119,Tryz.ntmps119
   go_wp2_with fail
   refine(zdH _ imn imx _).mono ?_;rintro e w2 ⟨rfl,hb2⟩;obtain⟨hcc,hff⟩:=zfX hb2;have hbb:=(((Below.refl w.heap.size w).alloc (zuz _) _).alloc (by simp) _).trans (hb2.mono (by simp;omega));clear hb2;go_wp2;go_ret;exact⟨rfl,hbb⟩
theorem zem(h:zcU mn mx=true):za2 mn mx=1:=by
 simp[zcU] at h;obtain⟨rfl,h|h⟩:=h<;>subst h<;>rfl
theorem zjJ{imn imx:Int}(h1:zcU imn imx=true)(h2:zcU mn mx=true):zcU 0 (if imx<=mx then imx else mx)=true:=by
 simp[zcU] at *;split<;>omega
theorem zjI(h:zcU 0 mx=true):zaY 0 mx=true:=by
 simp[zcU] at h;simp[zaY];omega
end
section
attribute [local go_sem ↓] Go.wp_at_zero Go.wp_at_succ
theorem zhq{P:Program}{ops:Array Oper}{rest:List Oper}{o:Oper}{a:Act}{w:World}{Q:Exit->Act->World->Prop}(hg:o.guard=none)(t:TypeId)(parts:Array (Nat×Operand))(ho:o.op=.build t parts)
  (vals:List (Nat×Value)) (hv:(parts.map fun(i,x)=>(i,a.eval x)).toList=vals) (cells:Array Value) (hb:P.built t vals=some cells) (h:wpList P ops Q rest (a.put o.dst (.agg cells)) w):wpList P ops Q (o::rest) a w:=by
 subst hv;refine wpList_build hg t parts ho (by rw[hb];rfl) ?_;rw[hb];exact h
theorem zl8{lo:Nat}(tv v:Value)(rs:List (Int×Int))(w:World)(hs:zan lo w v rs)(hok:zbp 0 rs=true):
  Calls Tryz.prog 112 #[.agg #[.int .i64 1,v,.int .i64 0,.int .i64 0,.int .i64 0],tv] w fun e w'=>∃mg:Nat,e=.returned (.iface 165 (.agg #[.pointer (some ⟨mg,0,none⟩)]))/\w.heap.size<=mg/\w'.heap[mg]?=some (.cells (zaz (zdJ rs)) 213 (0,0))/\Below w.heap.size w w':=by
 have hzv:=(zero_of_info Tryz.zeroMarks).1;have hzi:Hid _:=(zero_of_info Tryz.zeroMarks).2
 go_enter Tryz.func112,Tryz.ntmps112
 go_wp2_with fail
 refine(zne (lo:=lo) _ rs _ (hs.below ?_) hok).mono ?_
 ·exact(Below.refl _ _).alloc (zuz _) _
 rintro e w2 ⟨rfl,hb2⟩
 go_wp2_with (refine wpList_store_row rfl 213 (.tmp 5) _ rfl w2.heap.size _ rfl rfl 213 _ (zuR _ _) (by rw[zaG];exact hzi.out) (by rw[zaG,zaG]) (zcN _) ?_)
 go_ret
 have hz2:=hb2.size;have hB:=zaa ((Below.refl w.heap.size w).alloc (zuz _) _) (by simp) hb2;exact⟨_,rfl,hB.size,setRow_heap _ _ _ _ _ _ (zuR _ _),Below.setRow (hB.alloc hB.size _) hB.size _⟩
theorem zqQ(sv x y:Value)(t u:TypeId)(g o c:Nat)(w:World)(c0:w.cell? ⟨g,o,none⟩=some (.iface t x))(c1:w.cell? ⟨g,o+1,none⟩=some (.iface u y)):
  Calls Tryz.prog 112 #[.agg #[.int .i64 2,sv,.int .i64 0,.int .i64 0,.int .i64 0],.slice (some ⟨g,o,none⟩) 2 c] w fun e w'=>e=.returned (.iface 168 (.agg #[.iface t x,.iface u y]))/\Below w.heap.size w w':=by
 have hg:g<w.heap.size:=block_lt_of_cell c0
 go_enter Tryz.func112,Tryz.ntmps112
 go_wp2
 go_quiet (fail)
 go_wp2;go_ret;exact⟨rfl,below_drewN ((Below.refl _ _).alloc (zuz _) _) _⟩
theorem zqO(sv x y:Value)(t u:TypeId)(g o c:Nat)(w:World)(c0:w.cell? ⟨g,o,none⟩=some (.iface t x))(c1:w.cell? ⟨g,o+1,none⟩=some (.iface u y)):
  Calls Tryz.prog 112 #[.agg #[.int .i64 3,sv,.int .i64 0,.int .i64 0,.int .i64 0],.slice (some ⟨g,o,none⟩) 2 c] w fun e w'=>e=.returned (.iface 170 (.agg #[.iface t x,.iface u y]))/\Below w.heap.size w w':=by
 have hg:g<w.heap.size:=block_lt_of_cell c0
 go_enter Tryz.func112,Tryz.ntmps112
 go_wp2
 go_quiet (fail)
 go_wp2;go_ret;exact⟨rfl,below_drewN ((Below.refl _ _).alloc (zuz _) _) _⟩
theorem zqP(sv x:Value)(t:TypeId)(gr:Int)(g o c:Nat)(w:World)(c0:w.cell? ⟨g,o,none⟩=some (.iface t x)):
  Calls Tryz.prog 112 #[.agg #[.int .i64 5,sv,.int .i64 0,.int .i64 0,.int .i64 gr],.slice (some ⟨g,o,none⟩) 1 c] w fun e w'=>e=.returned (.iface 175 (.agg #[.iface t x,.int .i64 gr]))/\Below w.heap.size w w':=by
 have hg:g<w.heap.size:=block_lt_of_cell c0
 go_enter Tryz.func112,Tryz.ntmps112
 go_wp2
 go_quiet (fail)
 go_wp2;go_ret;exact⟨rfl,below_drewN ((Below.refl _ _).alloc (zuz _) _) _⟩
end
def zcf(n:zau)(args:List Int):Int:=
 if n.kind=1 then 1
 else if n.kind=2\/n.kind=3 then capW (args.getD 0 0+args.getD 1 0)
 else if n.kind=4 then capW (args.getD 0 0*za2 n.min n.max)
 else args.getD 0 0
def zgc(st:List Int)(n:zau):List Int:=st.take (st.length-zaI n.kind)++[zcf n (st.drop (st.length-zaI n.kind))]
def zdy:List zau->List Int->Option (List Int)
 |[],st=>some st
 |n::ns,st=>if st.length<zaI n.kind\/zaK n=false then none else zdy ns (zgc st n)
def ze3(ns:List zau):Option Int:=match zdy ns [] with
 |some [wt]=>some wt
 |_=>none
theorem zhW(ns:List zau)(i:Nat)(hi:i<ns.length)(st:List Int)(nd:zau)(h:ns.getD i .zero=nd):
  zdy (ns.drop i) st=if st.length<zaI nd.kind\/zaK nd=false then none else zdy (ns.drop (i+1)) (zgc st nd):=by
 rw[ztG hi];have:ns[i]=nd:=by rw[<-h];simp[List.getD,hi]
 rw[this]
 rfl
def znU(N:Nat)(xs:List Value)(st:List Int):Prop:=xs.length=st.length/\∀j,j<st.length->∃t x,xs[j]?=some (.iface t x)/\zbk N (.iface t x) (st.getD j 0)
end Go.Proofs.YthddplbodacjgaaGreatDoor
