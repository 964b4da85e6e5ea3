import Derived.Test.YtdimhpfiieepiaaGreatDoorC2
import Derived.Deep.QuietTactic
import Derived.BigQuiet
import Derived.Deep.AppendLies
namespace Go.Proofs.YtdimhpfiieepiaaGreatDoor
open Proofs.Tryz
open Value renaming int->za,agg->zc,slice->zi
open Go renaming Value->zb,World->zf,TypeId->zg,Calls->zh
open Option renaming none->zd,some->ze
set_option maxHeartbeats 400000
set_option maxRecDepth 100000
open Go.RowKit
section
variable {n mn mx:Int}
def gu:Nat->zb->Int->Prop
 |0,_,_=>False
 |n+1,v,wt=>
  (∃x,v=.iface 297 (zc #[x])/\wt=1)\/
  (∃l r a b,v=.iface 256 (zc #[l,r])/\gu n l a/\gu n r b/\wt=cM (a+b))\/
  (∃l r a b,v=.iface 258 (zc #[l,r])/\gu n l a/\gu n r b/\wt=cM (a+b))\/
  (∃l a mn mx,v=.iface 261 (zc #[l,za .i64 mn,za .i64 mx])/\gu n l a/\fj mn mx=true/\wt=cM (a*ed mn mx))\/
  (∃l g,v=.iface 264 (zc #[l,za .i64 g])/\gu n l wt)
theorem BM(h:1<=n):1<=cM n/\cM n<=2001:=by unfold cM;split<;>omega
theorem Gj(h:n<=2001):cM n=n:=by unfold cM;rw[aC h]
theorem gu.facts:∀(n:Nat) (v:zb) (wt:Int),gu n v wt->qY v wt/\1<=wt/\wt<=2001
 |0,_,_,h=>h.elim
 |n+1,v,wt,h=>by
  rcases h with ⟨f,rfl,rfl⟩|⟨l,r,a,b,rfl,hl,hr,rfl⟩|⟨l,r,a,b,rfl,hl,hr,rfl⟩|⟨l,a,mn,mx,rfl,hl,hb,rfl⟩|⟨l,g,rfl,hl⟩
  ·exact⟨zig f,by omega,by omega⟩
  ·obtain⟨h1,h2,h3⟩:=gu.facts n l a hl;obtain⟨k1,k2,k3⟩:=gu.facts n r b hr;exact⟨zif l r a b h1 k1 (by omega) h3 (by omega) k3,BM (by omega)⟩
  ·obtain⟨h1,h2,h3⟩:=gu.facts n l a hl;obtain⟨k1,k2,k3⟩:=gu.facts n r b hr;exact⟨zic l r a b h1 k1 (by omega) h3 (by omega) k3,BM (by omega)⟩
  ·obtain⟨h1,h2,h3⟩:=gu.facts n l a hl;have hc:=FY hb;exact⟨zie l a mn mx h1 (by omega) h3 hb,BM (Int.mul_le_mul h2 hc.1 (by omega) (by omega) |> λh=>by simpa using h)⟩
  ·obtain⟨h1,h2,h3⟩:=gu.facts n l wt hl;exact⟨zid l g wt h1,h2,h3⟩
theorem gu.mono:∀(n m:Nat) (v:zb) (wt:Int),n<=m->gu n v wt->gu m v wt
 |0,_,_,_,_,h=>h.elim
 |_+1,0,_,_,mQ,_=>absurd mQ (Nat.not_succ_le_zero _)
 |n+1,m+1,v,wt,mQ,h=>by
  have IL:n<=m:=Nat.le_of_succ_le_succ mQ;rcases h with ⟨f,rfl,rfl⟩|⟨l,r,a,b,rfl,hl,hr,rfl⟩|⟨l,r,a,b,rfl,hl,hr,rfl⟩|⟨l,a,mn,mx,rfl,hl,hb,rfl⟩|⟨l,g,rfl,hl⟩
  ·exact .inl ⟨f,rfl,rfl⟩
  ·exact .inr (.inl ⟨l,r,a,b,rfl,gu.mono n m l a IL hl,gu.mono n m r b IL hr,rfl⟩)
  ·exact .inr (.inr (.inl ⟨l,r,a,b,rfl,gu.mono n m l a IL hl,gu.mono n m r b IL hr,rfl⟩))
  ·exact .inr (.inr (.inr (.inl ⟨l,a,mn,mx,rfl,gu.mono n m l a IL hl,hb,rfl⟩)))
  ·exact .inr (.inr (.inr (.inr ⟨l,g,rfl,gu.mono n m l wt IL hl⟩)))
theorem zkg(v:zb)(w:zf)(t:zg)(x:zb)(hv:v=.iface t x):
  zh prog 178 #[v,za .i64 1,za .i64 1] w λe w'=>e=.returned v/\Below w.heap.size w w':=by
 subst hv
 go_enter func178,ntmps178
 go_wp2;go_ret;exact⟨rfl,Below.refl _ _⟩
def FQ(t:zg)(x:zb):Prop:=∀w,(Instr.typeAssert (.iface t x) 184 261 true).run prog w=.ok (.tuple #[zc #[.nilIface,za .i64 0,za .i64 0],.bool false]) w
theorem zpK(x:zb):FQ 297 x:=λw=>by kernel_rfl
theorem zpJ(x:zb):FQ 256 x:=λw=>by kernel_rfl
theorem zpH(x:zb):FQ 258 x:=λw=>by kernel_rfl
theorem zpI(x:zb):FQ 264 x:=λw=>by kernel_rfl
theorem zse(x:zb)(w:zf):(Instr.typeAssert (.iface 261 x) 184 261 true).run prog w=.ok (.tuple #[x,.bool true]) w:=by kernel_rfl
theorem zhz(t:zg)(x:zb)(ho:FQ t x)(mn mx:Int)(w:zf)(h1:¬(mn=1/\mx=1)):
  zh prog 178 #[.iface t x,za .i64 mn,za .i64 mx] w λe w'=>e=.returned (.iface 261 (zc #[.iface t x,za .i64 mn,za .i64 mx]))/\Below w.heap.size w w':=by
 unfold FQ at ho
 by_cases h:mn=1
 ·subst h;have hb:(mx==1)=false:=eB.2 (by simpa using h1);clear h1
  go_enter func178,ntmps178
  go_wp2;go_ret;exact⟨rfl,(aw).alloc (by simp) _⟩
 ·have hb:(mn==1)=false:=eB.2 h;clear h h1
  go_enter func178,ntmps178
  go_wp2;go_ret;exact⟨rfl,(aw).alloc (by simp) _⟩
theorem zkh(t:zg)(x:zb)(lI fe mn mx:Int)(w:zf)(h1:¬(mn=1/\mx=1)):
  zh prog 178 #[.iface 261 (zc #[.iface t x,za .i64 lI,za .i64 fe]),za .i64 mn,za .i64 mx] w λe w'=>
   (e=.returned (if gT lI fe=true/\gT mn mx=true then .iface 261 (zc #[.iface t x,za .i64 0,za .i64 (if fe<=mx then fe else mx)]) else .iface 261 (zc #[.iface 261 (zc #[.iface t x,za .i64 lI,za .i64 fe]),za .i64 mn,za .i64 mx])))/\Below w.heap.size w w':=by
 have ho:=zse;have Vo:(mn=1/\(mx==1)=false)\/(mn==1)=false:=by
  by_cases h:mn=1
  ·exact .inl ⟨h,eB.2 (λe=>h1 ⟨h,e⟩)⟩
  ·exact .inr (eB.2 h)
 clear h1
 by_cases hA:gT lI fe=true
 ·by_cases hB:gT mn mx=true
  ·rw[aC ⟨hA,hB⟩];have pY:mn=0:=by simp[gT]at hB;exact hB.1
   subst pY;clear Vo
   by_cases hle:fe<=mx
   all_goals
    go_enter func178,ntmps178
    go_wp2_with fail
    refine(Nj _ lI fe _).mono ?_;rintro e w2 ⟨rfl,ae⟩;obtain⟨hcc,EZ⟩:=uc ae;have cN:=(((Below.refl w.heap.size w).alloc (aj _) _).alloc (by simp) _).trans (ae.mono (by simp;omega));have hz:=ae.size;clear ae
    go_wp2_with fail
    refine(Nj _ 0 mx _).mono ?_;rintro e w3 ⟨rfl,aG⟩;have zzx:∀b o,b<w.heap.size+1+1->w3.cell? ⟨b,o,zd⟩=w2.cell? ⟨b,o,zd⟩:=λb o hb=>aG.cell (p:=⟨b,o,zd⟩) (bA hb (by simpa using hz))
    have qF:=cN.trans (aG.mono (aW (by simp;omega) hz));clear aG cN;go_wp2;go_ret;exact⟨rfl,qF⟩
  ·rw[ak (λh=>hB h.2)];have CQ:gT mn mx=false:=by simpa using hB
   clear hB;rcases Vo with ⟨rfl,hm⟩|hm
   all_goals
    go_enter func178,ntmps178
    go_wp2_with fail
    refine(Nj _ lI fe _).mono ?_;rintro e w2 ⟨rfl,ae⟩;obtain⟨hcc,EZ⟩:=uc ae;have cN:=(((Below.refl w.heap.size w).alloc (aj _) _).alloc (by simp) _).trans (ae.mono (by simp;omega));have hz:=ae.size;clear ae
    go_wp2_with fail
    refine(Nj _ _ mx _).mono ?_;rintro e w3 ⟨rfl,aG⟩;have zzx:∀b o,b<w.heap.size+1+1->w3.cell? ⟨b,o,zd⟩=w2.cell? ⟨b,o,zd⟩:=λb o hb=>aG.cell (p:=⟨b,o,zd⟩) (bA hb (by simpa using hz))
    have qF:=cN.trans (aG.mono (aW (by simp;omega) hz));clear aG cN;go_wp2;go_ret;exact⟨rfl,qF⟩
 ·rw[ak (λh=>hA h.1)];have hA':gT lI fe=false:=by simpa using hA
  clear hA;rcases Vo with ⟨rfl,hm⟩|hm
  all_goals
   go_enter func178,ntmps178
   go_wp2_with fail
   refine(Nj _ lI fe _).mono ?_;rintro e w2 ⟨rfl,ae⟩;obtain⟨hcc,EZ⟩:=uc ae;have cN:=(((Below.refl w.heap.size w).alloc (aj _) _).alloc (by simp) _).trans (ae.mono (by simp;omega));clear ae;go_wp2;go_ret;exact⟨rfl,cN⟩
theorem WM(h:gT mn mx=true):ed mn mx=1:=by
 simp[gT]at h;obtain⟨rfl,h|h⟩:=h<;>subst h<;>rfl
theorem XF{lI fe:Int}(h1:gT lI fe=true)(h2:gT mn mx=true):gT 0 (if fe<=mx then fe else mx)=true:=by
 simp[gT]at *;split<;>omega
theorem zjV(h:gT 0 mx=true):fj 0 mx=true:=by
 simp[gT]at h;simp[fj];omega
end
section
attribute [local go_sem ↓] wp_at_zero wp_at_succ
theorem zeg{P:Program}{ops:Array Oper}{rest:List Oper}{o:Oper}{a:Act}{w:zf}{Q:Exit->Act->zf->Prop}(hg:o.guard=zd)(t:zg)(parts:Array (Nat×Operand))(ho:o.op=.build t parts)
  (vals:List (Nat×zb)) (hv:(parts.map λ(i,x)=>(i,a.eval x)).toList=vals) (cells:Array zb) (hb:P.built t vals=ze cells) (h:wpList P ops Q rest (a.put o.dst (.agg cells)) w):wpList P ops Q (o::rest) a w:=by
 subst hv;refine wpList_build hg t parts ho (by rw[hb];rfl) ?_;rw[hb];exact h
theorem zrj{lo:Nat}(tv v:zb)(rs:List (Int×Int))(w:zf)(hs:dR lo w v rs)(fE:nz 0 rs=true):
  zh prog 157 #[zc #[za .i64 1,v,za .i64 0,za .i64 0,za .i64 0],tv] w λe w'=>∃mg:Nat,e=.returned (.iface 297 (zc #[.pointer (ze ⟨mg,0,zd⟩)]))/\w.heap.size<=mg/\w'.heap[mg]?=ze (.cells (dz (vq rs)) 293 (0,0))/\Below w.heap.size w w':=by
 have VI:=(zero_of_info Tryz.JE).1;have qe:Hid _:=(zero_of_info Tryz.JE).2
 go_enter func157,ntmps157
 go_wp2_with fail
 refine(znA (lo:=lo) _ rs _ (hs.below ?_) fE).mono ?_
 ·exact aw
 rintro e w2 ⟨rfl,ae⟩
 go_wp2_with (refine wpList_store_row rfl 293 (.tmp 5) _ rfl w2.heap.size _ rfl rfl 293 _ (aI _ _) (by rw[mC];exact qe.out) (by rw[mC,mC]) (Nc _) ?_)
 go_ret
 have aQ:=ae.size;have hB:=aq ((Below.refl w.heap.size w).alloc (aj _) _) (by simp) ae;exact⟨_,rfl,hB.size,setRow_heap _ _ _ _ _ _ (aI _ _),Below.setRow (hB.alloc hB.size _) hB.size _⟩
theorem zri(sv x y:zb)(t u:zg)(g o c:Nat)(w:zf)(c0:w.cell? ⟨g,o,zd⟩=ze (.iface t x))(c1:w.cell? ⟨g,o+1,zd⟩=ze (.iface u y)):
  zh prog 157 #[zc #[za .i64 2,sv,za .i64 0,za .i64 0,za .i64 0],zi (ze ⟨g,o,zd⟩) 2 c] w λe w'=>e=.returned (.iface 256 (zc #[.iface t x,.iface u y]))/\Below w.heap.size w w':=by
 have hg:g<w.heap.size:=block_lt_of_cell c0
 go_enter func157,ntmps157
 go_wp2
 go_quiet (fail)
 go_wp2;go_ret;exact⟨rfl,below_drewN (aw) _⟩
theorem zrf(sv x y:zb)(t u:zg)(g o c:Nat)(w:zf)(c0:w.cell? ⟨g,o,zd⟩=ze (.iface t x))(c1:w.cell? ⟨g,o+1,zd⟩=ze (.iface u y)):
  zh prog 157 #[zc #[za .i64 3,sv,za .i64 0,za .i64 0,za .i64 0],zi (ze ⟨g,o,zd⟩) 2 c] w λe w'=>e=.returned (.iface 258 (zc #[.iface t x,.iface u y]))/\Below w.heap.size w w':=by
 have hg:g<w.heap.size:=block_lt_of_cell c0
 go_enter func157,ntmps157
 go_wp2
 go_quiet (fail)
 go_wp2;go_ret;exact⟨rfl,below_drewN (aw) _⟩
theorem zrh(sv x:zb)(t:zg)(gr:Int)(g o c:Nat)(w:zf)(c0:w.cell? ⟨g,o,zd⟩=ze (.iface t x)):
  zh prog 157 #[zc #[za .i64 5,sv,za .i64 0,za .i64 0,za .i64 gr],zi (ze ⟨g,o,zd⟩) 1 c] w λe w'=>e=.returned (.iface 264 (zc #[.iface t x,za .i64 gr]))/\Below w.heap.size w w':=by
 have hg:g<w.heap.size:=block_lt_of_cell c0
 go_enter func157,ntmps157
 go_wp2
 go_quiet (fail)
 go_wp2;go_ret;exact⟨rfl,below_drewN (aw) _⟩
def oI(n:aL)(args:List Int):Int:=
 if n.kind=1 then 1
 else if n.kind=2\/n.kind=3 then cM (args.getD 0 0+args.getD 1 0)
 else if n.kind=4 then cM (args.getD 0 0*ed n.min n.max)
 else args.getD 0 0
def yz(st:List Int)(n:aL):List Int:=st.take (st.length-bC n.kind)++[oI n (st.drop (st.length-bC n.kind))]
def mG:List aL->List Int->Option (List Int)
 |[],st=>ze st
 |n::ns,st=>if st.length<bC n.kind\/aY n=false then zd else mG ns (yz st n)
def tZ(ns:List aL):Option Int:=match mG ns [] with
 |some [wt]=>ze wt
 |_=>zd
theorem zhP(ns:List aL)(i:Nat)(hi:i<ns.length)(st:List Int)(nd:aL)(h:ns.getD i .zero=nd):
  mG (ns.drop i) st=if st.length<bC nd.kind\/aY nd=false then zd else mG (ns.drop (i+1)) (yz st nd):=by
 rw[oK hi];have:ns[i]=nd:=by rw[<-h];simp[List.getD,hi]
 rw[this]
 rfl
def JR(N:Nat)(xs:List zb)(st:List Int):Prop:=xs.length=st.length/\∀j,j<st.length->∃t x,xs[j]?=ze (.iface t x)/\gu N (.iface t x) (st.getD j 0)
end
end Go.Proofs.YtdimhpfiieepiaaGreatDoor
