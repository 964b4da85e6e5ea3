import Derived.Test.YtdimhpfiieepiaaGreatDoorC4
import Derived.Deep.QuietTactic
import Derived.BigQuiet
import Derived.Deep.AppendLies
namespace Go.Proofs.YtdimhpfiieepiaaGreatDoor
open Proofs.Tryz
open Value renaming int->za,agg->zc,slice->zi
open Go renaming Value->zb,World->zf,TypeId->zg,Calls->zh
open Option renaming none->zd,some->ze
set_option maxHeartbeats 400000
set_option maxRecDepth 100000
open Go.RowKit
section
variable {n mn mx:Int}
def fZ:Nat->zb->Int->Prop
 |0,_,_=>False
 |n+1,v,wt=>
  (∃x,v=.iface 297 (zc #[x])/\wt=1)\/
  (∃l r a b,v=.iface 256 (zc #[l,r])/\fZ n l a/\fZ n r b/\wt=cJ (a+b))\/
  (∃l r a b,v=.iface 258 (zc #[l,r])/\fZ n l a/\fZ n r b/\wt=cJ (a+b))\/
  (∃l a mn mx,v=.iface 261 (zc #[l,za .i64 mn,za .i64 mx])/\fZ n l a/\eK mn mx=true/\wt=cJ (a*dV mn mx))\/
  (∃l g,v=.iface 264 (zc #[l,za .i64 g])/\fZ n l wt)
theorem Bb(h:1<=n):1<=cJ n/\cJ n<=2001:=by unfold cJ;split<;>omega
theorem Fk(h:n<=2001):cJ n=n:=by unfold cJ;rw[aD h]
theorem fZ.facts:∀(n:Nat) (v:zb) (wt:Int),fZ n v wt->qN v wt/\1<=wt/\wt<=2001
 |0,_,_,h=>h.elim
 |n+1,v,wt,h=>by
  rcases h with ⟨f,rfl,rfl⟩|⟨l,r,a,b,rfl,hl,hr,rfl⟩|⟨l,r,a,b,rfl,hl,hr,rfl⟩|⟨l,a,mn,mx,rfl,hl,hb,rfl⟩|⟨l,g,rfl,hl⟩
  ·exact⟨zim f,by omega,by omega⟩
  ·obtain⟨h1,h2,h3⟩:=fZ.facts n l a hl;obtain⟨k1,k2,k3⟩:=fZ.facts n r b hr;exact⟨zil l r a b h1 k1 (by omega) h3 (by omega) k3,Bb (by omega)⟩
  ·obtain⟨h1,h2,h3⟩:=fZ.facts n l a hl;obtain⟨k1,k2,k3⟩:=fZ.facts n r b hr;exact⟨zii l r a b h1 k1 (by omega) h3 (by omega) k3,Bb (by omega)⟩
  ·obtain⟨h1,h2,h3⟩:=fZ.facts n l a hl;have hc:=E2 hb;exact⟨zik l a mn mx h1 (by omega) h3 hb,Bb (Int.mul_le_mul h2 hc.1 (by omega) (by omega) |> λh=>by simpa using h)⟩
  ·obtain⟨h1,h2,h3⟩:=fZ.facts n l wt hl;exact⟨zij l g wt h1,h2,h3⟩
theorem fZ.mono:∀(n m:Nat) (v:zb) (wt:Int),n<=m->fZ n v wt->fZ m v wt
 |0,_,_,_,_,h=>h.elim
 |_+1,0,_,_,kz,_=>absurd kz (Nat.not_succ_le_zero _)
 |n+1,m+1,v,wt,kz,h=>by
  have GS:n<=m:=Nat.le_of_succ_le_succ kz;rcases h with ⟨f,rfl,rfl⟩|⟨l,r,a,b,rfl,hl,hr,rfl⟩|⟨l,r,a,b,rfl,hl,hr,rfl⟩|⟨l,a,mn,mx,rfl,hl,hb,rfl⟩|⟨l,g,rfl,hl⟩
  ·exact .inl ⟨f,rfl,rfl⟩
  ·exact .inr (.inl ⟨l,r,a,b,rfl,fZ.mono n m l a GS hl,fZ.mono n m r b GS hr,rfl⟩)
  ·exact .inr (.inr (.inl ⟨l,r,a,b,rfl,fZ.mono n m l a GS hl,fZ.mono n m r b GS hr,rfl⟩))
  ·exact .inr (.inr (.inr (.inl ⟨l,a,mn,mx,rfl,fZ.mono n m l a GS hl,hb,rfl⟩)))
  ·exact .inr (.inr (.inr (.inr ⟨l,g,rfl,fZ.mono n m l wt GS hl⟩)))
theorem zkg(v:zb)(w:zf)(t:zg)(x:zb)(hv:v=.iface t x):
  zh prog 178 #[v,za .i64 1,za .i64 1] w λe w'=>e=.returned v/\Below w.heap.size w w':=by
 subst hv
 go_enter func178,ntmps178
 go_wp2;go_ret;exact⟨rfl,Below.refl _ _⟩
def E5(t:zg)(x:zb):Prop:=∀w,(Instr.typeAssert (.iface t x) 184 261 true).run prog w=.ok (.tuple #[zc #[.nilIface,za .i64 0,za .i64 0],.bool false]) w
theorem zpB(x:zb):E5 297 x:=λw=>by kernel_rfl
theorem zpA(x:zb):E5 256 x:=λw=>by kernel_rfl
theorem zpy(x:zb):E5 258 x:=λw=>by kernel_rfl
theorem zpz(x:zb):E5 264 x:=λw=>by kernel_rfl
theorem zrT(x:zb)(w:zf):(Instr.typeAssert (.iface 261 x) 184 261 true).run prog w=.ok (.tuple #[x,.bool true]) w:=by kernel_rfl
theorem zhH(t:zg)(x:zb)(ho:E5 t x)(mn mx:Int)(w:zf)(h1:¬(mn=1/\mx=1)):
  zh prog 178 #[.iface t x,za .i64 mn,za .i64 mx] w λe w'=>e=.returned (.iface 261 (zc #[.iface t x,za .i64 mn,za .i64 mx]))/\Below w.heap.size w w':=by
 unfold E5 at ho
 by_cases h:mn=1
 ·subst h;have hb:(mx==1)=false:=eu.2 (by simpa using h1);clear h1
  go_enter func178,ntmps178
  go_wp2;go_ret;exact⟨rfl,(au).alloc (by simp) _⟩
 ·have hb:(mn==1)=false:=eu.2 h;clear h h1
  go_enter func178,ntmps178
  go_wp2;go_ret;exact⟨rfl,(au).alloc (by simp) _⟩
theorem zkh(t:zg)(x:zb)(lH eI mn mx:Int)(w:zf)(h1:¬(mn=1/\mx=1)):
  zh prog 178 #[.iface 261 (zc #[.iface t x,za .i64 lH,za .i64 eI]),za .i64 mn,za .i64 mx] w λe w'=>
   (e=.returned (if gK lH eI=true/\gK mn mx=true then .iface 261 (zc #[.iface t x,za .i64 0,za .i64 (if eI<=mx then eI else mx)]) else .iface 261 (zc #[.iface 261 (zc #[.iface t x,za .i64 lH,za .i64 eI]),za .i64 mn,za .i64 mx])))/\Below w.heap.size w w':=by
 have ho:=zrT;have TL:(mn=1/\(mx==1)=false)\/(mn==1)=false:=by
  by_cases h:mn=1
  ·exact .inl ⟨h,eu.2 (λe=>h1 ⟨h,e⟩)⟩
  ·exact .inr (eu.2 h)
 clear h1
 by_cases hA:gK lH eI=true
 ·by_cases hB:gK mn mx=true
  ·rw[aD ⟨hA,hB⟩];have mS:mn=0:=by simp[gK]at hB;exact hB.1
   subst mS;clear TL
   by_cases hle:eI<=mx
   all_goals
    go_enter func178,ntmps178
    go_wp2_with fail
    refine(LP _ lH eI _).mono ?_;rintro e w2 ⟨rfl,af⟩;obtain⟨hcc,Ec⟩:=vi af;have cX:=(((Below.refl w.heap.size w).alloc (ai _) _).alloc (by simp) _).trans (af.mono (by simp;omega));have hz:=af.size;clear af
    go_wp2_with fail
    refine(LP _ 0 mx _).mono ?_;rintro e w3 ⟨rfl,ay⟩;have zx7:∀b o,b<w.heap.size+1+1->w3.cell? ⟨b,o,zd⟩=w2.cell? ⟨b,o,zd⟩:=λb o hb=>ay.cell (p:=⟨b,o,zd⟩) (bA hb (by simpa using hz))
    have ij:=cX.trans (ay.mono (aU (by simp;omega) hz));clear ay cX;go_wp2;go_ret;exact⟨rfl,ij⟩
  ·rw[aq (λh=>hB h.2)];have Ca:gK mn mx=false:=by simpa using hB
   clear hB;rcases TL with ⟨rfl,hm⟩|hm
   all_goals
    go_enter func178,ntmps178
    go_wp2_with fail
    refine(LP _ lH eI _).mono ?_;rintro e w2 ⟨rfl,af⟩;obtain⟨hcc,Ec⟩:=vi af;have cX:=(((Below.refl w.heap.size w).alloc (ai _) _).alloc (by simp) _).trans (af.mono (by simp;omega));have hz:=af.size;clear af
    go_wp2_with fail
    refine(LP _ _ mx _).mono ?_;rintro e w3 ⟨rfl,ay⟩;have zx7:∀b o,b<w.heap.size+1+1->w3.cell? ⟨b,o,zd⟩=w2.cell? ⟨b,o,zd⟩:=λb o hb=>ay.cell (p:=⟨b,o,zd⟩) (bA hb (by simpa using hz))
    have ij:=cX.trans (ay.mono (aU (by simp;omega) hz));clear ay cX;go_wp2;go_ret;exact⟨rfl,ij⟩
 ·rw[aq (λh=>hA h.1)];have hA':gK lH eI=false:=by simpa using hA
  clear hA;rcases TL with ⟨rfl,hm⟩|hm
  all_goals
   go_enter func178,ntmps178
   go_wp2_with fail
   refine(LP _ lH eI _).mono ?_;rintro e w2 ⟨rfl,af⟩;obtain⟨hcc,Ec⟩:=vi af;have cX:=(((Below.refl w.heap.size w).alloc (ai _) _).alloc (by simp) _).trans (af.mono (by simp;omega));clear af;go_wp2;go_ret;exact⟨rfl,cX⟩
theorem Va(h:gK mn mx=true):dV mn mx=1:=by
 simp[gK]at h;obtain⟨rfl,h|h⟩:=h<;>subst h<;>rfl
theorem VR{lH eI:Int}(h1:gK lH eI=true)(h2:gK mn mx=true):gK 0 (if eI<=mx then eI else mx)=true:=by
 simp[gK]at *;split<;>omega
theorem zjW(h:gK 0 mx=true):eK 0 mx=true:=by
 simp[gK]at h;simp[eK];omega
end
section
attribute [local go_sem ↓] wp_at_zero wp_at_succ
theorem zeg{P:Program}{ops:Array Oper}{rest:List Oper}{o:Oper}{a:Act}{w:zf}{Q:Exit->Act->zf->Prop}(hg:o.guard=zd)(t:zg)(parts:Array (Nat×Operand))(ho:o.op=.build t parts)
  (vals:List (Nat×zb)) (hv:(parts.map λ(i,x)=>(i,a.eval x)).toList=vals) (cells:Array zb) (hb:P.built t vals=ze cells) (h:wpList P ops Q rest (a.put o.dst (.agg cells)) w):wpList P ops Q (o::rest) a w:=by
 subst hv;refine wpList_build hg t parts ho (by rw[hb];rfl) ?_;rw[hb];exact h
theorem zmc{lo:Nat}(tv v:zb)(rs:List (Int×Int))(w:zf)(hs:dD lo w v rs)(eU:ny 0 rs=true):
  zh prog 157 #[zc #[za .i64 1,v,za .i64 0,za .i64 0,za .i64 0],tv] w λe w'=>∃mg:Nat,e=.returned (.iface 297 (zc #[.pointer (ze ⟨mg,0,zd⟩)]))/\w.heap.size<=mg/\w'.heap[mg]?=ze (.cells (dv (uX rs)) 293 (0,0))/\Below w.heap.size w w':=by
 have T8:=(zero_of_info Tryz.Iu).1;have vX:Hid _:=(zero_of_info Tryz.Iu).2
 go_enter func157,ntmps157
 go_wp2_with fail
 refine(znr (lo:=lo) _ rs _ (hs.below ?_) eU).mono ?_
 ·exact au
 rintro e w2 ⟨rfl,af⟩
 go_wp2_with (refine wpList_store_row rfl 293 (.tmp 5) _ rfl w2.heap.size _ rfl rfl 293 _ (aL _ _) (by rw[mE];exact vX.out) (by rw[mE,mE]) (LH _) ?_)
 go_ret
 have bz:=af.size;have hB:=aj ((Below.refl w.heap.size w).alloc (ai _) _) (by simp) af;exact⟨_,rfl,hB.size,setRow_heap _ _ _ _ _ _ (aL _ _),Below.setRow (hB.alloc hB.size _) hB.size _⟩
theorem zq8(sv x y:zb)(t u:zg)(g o c:Nat)(w:zf)(c0:w.cell? ⟨g,o,zd⟩=ze (.iface t x))(c1:w.cell? ⟨g,o+1,zd⟩=ze (.iface u y)):
  zh prog 157 #[zc #[za .i64 2,sv,za .i64 0,za .i64 0,za .i64 0],zi (ze ⟨g,o,zd⟩) 2 c] w λe w'=>e=.returned (.iface 256 (zc #[.iface t x,.iface u y]))/\Below w.heap.size w w':=by
 have hg:g<w.heap.size:=block_lt_of_cell c0
 go_enter func157,ntmps157
 go_wp2
 go_quiet (fail)
 go_wp2;go_ret;exact⟨rfl,below_drewN (au) _⟩
theorem zq6(sv x y:zb)(t u:zg)(g o c:Nat)(w:zf)(c0:w.cell? ⟨g,o,zd⟩=ze (.iface t x))(c1:w.cell? ⟨g,o+1,zd⟩=ze (.iface u y)):
  zh prog 157 #[zc #[za .i64 3,sv,za .i64 0,za .i64 0,za .i64 0],zi (ze ⟨g,o,zd⟩) 2 c] w λe w'=>e=.returned (.iface 258 (zc #[.iface t x,.iface u y]))/\Below w.heap.size w w':=by
 have hg:g<w.heap.size:=block_lt_of_cell c0
 go_enter func157,ntmps157
 go_wp2
 go_quiet (fail)
 go_wp2;go_ret;exact⟨rfl,below_drewN (au) _⟩
theorem zq7(sv x:zb)(t:zg)(gr:Int)(g o c:Nat)(w:zf)(c0:w.cell? ⟨g,o,zd⟩=ze (.iface t x)):
  zh prog 157 #[zc #[za .i64 5,sv,za .i64 0,za .i64 0,za .i64 gr],zi (ze ⟨g,o,zd⟩) 1 c] w λe w'=>e=.returned (.iface 264 (zc #[.iface t x,za .i64 gr]))/\Below w.heap.size w w':=by
 have hg:g<w.heap.size:=block_lt_of_cell c0
 go_enter func157,ntmps157
 go_wp2
 go_quiet (fail)
 go_wp2;go_ret;exact⟨rfl,below_drewN (au) _⟩
end
def kL(n:aM)(args:List Int):Int:=
 if n.kind=1 then 1
 else if n.kind=2\/n.kind=3 then cJ (args.getD 0 0+args.getD 1 0)
 else if n.kind=4 then cJ (args.getD 0 0*dV n.min n.max)
 else args.getD 0 0
def xY(st:List Int)(n:aM):List Int:=st.take (st.length-bi n.kind)++[kL n (st.drop (st.length-bi n.kind))]
def mH:List aM->List Int->Option (List Int)
 |[],st=>ze st
 |n::ns,st=>if st.length<bi n.kind\/aX n=false then zd else mH ns (xY st n)
def tR(ns:List aM):Option Int:=match mH ns [] with
 |some [wt]=>ze wt
 |_=>zd
theorem zhZ(ns:List aM)(i:Nat)(hi:i<ns.length)(st:List Int)(nd:aM)(h:ns.getD i .zero=nd):
  mH (ns.drop i) st=if st.length<bi nd.kind\/aX nd=false then zd else mH (ns.drop (i+1)) (xY st nd):=by
 rw[oC hi];have:ns[i]=nd:=by rw[<-h];simp[List.getD,hi]
 rw[this]
 rfl
def IH(N:Nat)(xs:List zb)(st:List Int):Prop:=xs.length=st.length/\∀j,j<st.length->∃t x,xs[j]?=ze (.iface t x)/\fZ N (.iface t x) (st.getD j 0)
end Go.Proofs.YtdimhpfiieepiaaGreatDoor
