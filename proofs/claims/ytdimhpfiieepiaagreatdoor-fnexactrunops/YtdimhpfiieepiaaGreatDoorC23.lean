import Derived.Test.YtdimhpfiieepiaaGreatDoorC22
namespace Go.Proofs.YtdimhpfiieepiaaGreatDoor
open Proofs.Tryz
open Option renaming none->za,some->zc
open Value renaming pointer->zd,slice->ze
open Obj renaming cells->zg
set_option maxHeartbeats 4000000
set_option maxRecDepth 100000
open Go.RowKit
attribute [local go_sem] Oper.semAt_some
theorem zky(n nw bt g1 c1 c:Nat)(sv fv:Value)(mk:Nat->Nat)(f:Nat->Nat->Bool)(T1:Nat->Nat)(w:World)
  (gY:vt w bt nw sv fv) (dr:0<n->∃gs cs:Nat,sv=ze (zc ⟨gs,0,za⟩) n cs/\gs<w.heap.size/\∀p,p<n->w.cell? ⟨gs,p,za⟩=zc (zd (zc ⟨mk p,0,za⟩))) (xJ:∀p,p<n->w.heap[mk p]?=zc (zg (dz (f p)) 293 (0,0))) (h1:aH w nw g1 T1)
  (hm:∀p,p<64*nw->au T1 p=true->p<n) (bY:nw<=1000) (hc:c<256) (hB:fS w) (h0:0<w.heap.size):
  Calls prog 170 #[zd (zc ⟨bt,0,za⟩),ze (zc ⟨g1,0,za⟩) nw c1,.int .u8 c] w λe w'=>zyy w nw (λq=>q<64*nw/\au T1 q=true/\f q c=true) e w':=by
 refine(callsIn_wide (n:=5)).1 ?_;refine callsIn_of_wp_marks func170 rfl trivial ?_ rfl;simp only[ntmps170,yE,qu,oJ,Nat.reduceAdd,Nat.reduceSub,B4,B5,B9,BW,wX,BX];have eV:bt<w.heap.size:=(ah.1 gY).1;have CY:Below w.heap.size w ((w.alloc (zg #[zd (zc ⟨bt,0,za⟩)] 224)).alloc (zg #[.int .u8 c] 5)):=(aw).alloc (by simp) _;have hno:=Gk nw bt _ fv ((w.alloc (zg #[zd (zc ⟨bt,0,za⟩)] 224)).alloc (zg #[.int .u8 c] 5)) ((CY.block bt eV).trans gY) bY
 gi_wp2_with (refine⟨trivial,?_⟩;gi_at_call 164;refine(callsIn_wide.2 hno).mono ?_;rintro e w1 ⟨rfl,aO,eO⟩)
 have ag:Below w.heap.size w w1:=CY.grown eO (by simp;omega) (λk e=>by cases e);simp only[World.size_alloc]at aO;have uX:=aO.cB;obtain⟨gN,Iw⟩:∃gN,gN=w.heap.size+1+1:=⟨_,rfl⟩;rw[<-Iw]at aO uX ⊢;have fD:w.heap.size+1<gN:=by omega
 clear Iw;have k0:w1.heap[w.heap.size]?=zc (zg #[zd (zc ⟨bt,0,za⟩)] 224 (0,0)):=(eO.block _ (by simp;omega) (by simp)).trans (cX (aI _ _));have k1:w1.heap[w.heap.size+1]?=zc (zg #[.int .u8 c] 5 (0,0)):=by
  refine(eO.block _ (by simp) (by simp)).trans ?_;have:=aI (w.alloc (zg #[zd (zc ⟨bt,0,za⟩)] 224)) (zg #[.int .u8 c] 5)
  simpa using this
 obtain⟨W0,ai⟩:∃W0,w1.alloc (zg #[ze (zc ⟨gN,0,za⟩) nw nw] 193)=W0:=⟨_,rfl⟩;have af:Below w.heap.size w W0:=by rw[<-ai];exact ag.alloc ag.size _
 have hsz:W0.heap.size=w1.heap.size+1:=by rw[<-ai];simp
 have x2:W0.heap[w.heap.size]?=zc (zg #[zd (zc ⟨bt,0,za⟩)] 224 (0,0)):=by rw[<-ai];exact cX k0
 have x4:W0.heap[w.heap.size+1]?=zc (zg #[.int .u8 c] 5 (0,0)):=by rw[<-ai];exact cX k1
 have x5:W0.heap[w1.heap.size]?=zc (zg #[ze (zc ⟨gN,0,za⟩) nw nw] 193 (0,0)):=by rw[<-ai];exact aI _ _
 have yN:aH W0 nw gN cQ:=by rw[<-ai];exact⟨cX aO.row,aO.lt⟩
 rw[ai];clear ai k0 k1 aO hno;have mO:∀p,p<n->mk p<w.heap.size:=λp hp=>(ah.1 (xJ p hp)).1
 have zwJ:=h1.cB;have y1:aH W0 nw g1 T1:=h1.below af;have yb:fS W0:=hB.keep (af.block 0 h0);have yx:vt W0 bt nw sv fv:=(af.block bt eV).trans gY;have yr:∀p,p<n->W0.heap[mk p]?=zc (zg (dz (f p)) 293 (0,0)):=λp hp=>(af.block _ (mO p hp)).trans (xJ p hp)
 refine Jo (by omega) (gf:=165) (fb:=#[ze (zc ⟨g1,0,za⟩) nw c1]) (lb:=#[]) rfl (enters_of func165 (by kernel_rfl) rfl)
  (T:=[0,g1]) (by intro k hk;have:=y1.cB;simp at hk;omega)
  (Nd 4 nw g1 c1 T1 (by omega) bY W0 y1 yb) (λ_=>rfl)
  (λpre W=>ap (λk=>k=gN) W0 W/\∃U,aH W nw gN U/\∀q,au U q=true↔q∈jv pre/\f q c=true)
  (λ_ _ _=>False)
  (λs A B hs ht=>⟨hs.1.turn ht,by obtain⟨U,h1,h2⟩:=hs.2;exact⟨U,⟨ht.same _ _ h1.row (.inr rfl),h1.lt⟩,h2⟩⟩)
  (λc s A B hs ht=>hs)
  ⟨ap.refl _ _,cQ,yN,λq=>by rw[BL];simp[jv]⟩
  (λx=>{tmps:=#[zd (zc ⟨bt,0,za⟩),ze (zc ⟨g1,0,za⟩) nw c1,.int .u8 c,zd (zc ⟨w.heap.size,0,za⟩),undef,zd (zc ⟨w.heap.size+1,0,za⟩),ze za 0 0,zd (zc ⟨w1.heap.size,0,za⟩),.int .i64 (x.1:Int),zd (zc ⟨bt,0,za⟩),ze (zc ⟨gN,0,za⟩) nw nw,ze (zc ⟨g1,0,za⟩) nw c1,.func (.func 165) #[ze (zc ⟨g1,0,za⟩) nw c1] #[],.int .i64 (x.1:Int),undef,undef,undef,undef,undef,undef,undef,undef,undef,undef,undef,undef,undef,undef,undef],defers:=[]})
  ?assign ?body ?done ?stop
 case assign=>
  intro l x W K hK
  gi_wp2
  exact hK
 case stop=>
  rintro D c pre W hD _ hf;exact hf.elim
 case body=>
  rintro l pre ⟨x,hx⟩ W hl ⟨ht,U,hU,gX⟩ hlen;have fK:=hm x hx.1 hx.2;obtain⟨gs,cs,rfl,iJ,dr⟩:=dr (by omega);have yf:∀p,p<n->W0.cell? ⟨gs,p,za⟩=zc (zd (zc ⟨mk p,0,za⟩)):=λp hp=>(af.cell (p:=⟨gs,p,za⟩) iJ).trans (dr p hp)
  have hfx:=mO x fK;have z3:W.cell? ⟨w.heap.size,0,za⟩=zc (zd (zc ⟨bt,0,za⟩)):=(aM _ _ _ _ _ _ ((ht.same _ (by omega) (by omega)).trans x2):W.cell? ⟨w.heap.size,0,za⟩=_);have z4:W.cell? ⟨w.heap.size+1,0,za⟩=zc (.int .u8 c):=(aM _ _ _ _ _ _ ((ht.same _ (by omega) (by omega)).trans x4):W.cell? ⟨w.heap.size+1,0,za⟩=_);have z5:W.cell? ⟨w1.heap.size,0,za⟩=zc (ze (zc ⟨gN,0,za⟩) nw nw):=(aM _ _ _ _ _ _ ((ht.same _ (by omega) (by omega)).trans x5):W.cell? ⟨w1.heap.size,0,za⟩=_);have zb:W.cell? ⟨bt,1,za⟩=zc (ze (zc ⟨gs,0,za⟩) n cs):=(aM _ _ _ _ _ _ ((ht.same bt (by omega) (by omega)).trans yx):W.cell? ⟨bt,1,za⟩=_);have zf:W.cell? ⟨gs,x,za⟩=zc (zd (zc ⟨mk x,0,za⟩)):=(show W.cell? ⟨gs,x,za⟩=W0.cell? ⟨gs,x,za⟩from World.cell?_of_block (ht.same gs (by omega) (by omega))).trans (yf x fK);have zm:W.cell? ⟨mk x,c,za⟩=zc (.bool (f x c)):=by
   rw[aM _ _ _ _ _ _ ((ht.same (mk x) (by omega) (by omega)).trans (yr x fK)),Qt _ _ hc]
  have hj:=Gi nw gN nw U x W.drew hU.row (by omega) bY hU.lt;have da:(0:Int)<=(x:Int):=by omega
  have cO:(x:Int)<(n:Int):=by omega
  have xE:(0:Int)<=(c:Int):=by omega
  have uJ:(c:Int)<256:=by omega
  have fP:prog.follows .mixedOrders=true:=by kernel_rfl
  dsimp only;cases EY:f x c
  ·rw[EY]at zm
   gi_wp2
   gi_region_with_o (fail)
   all_goals
    gi_wp2
    refine⟨⟨aj _,λ_ _ _ h _=>h⟩,λ_ _=>rfl,⟨ht.os,ht.tape,ht.output,ht.size,ht.same⟩,U,⟨hU.row,hU.lt⟩,λq=>?_⟩;rw[gX,Dy];constructor
    ·rintro ⟨h3,h4⟩;exact⟨fm.2 (.inl h3),h4⟩
    ·rintro ⟨h3,h4⟩;rcases fm.1 h3 with h3|h3
     ·exact⟨h3,h4⟩
     ·rw[eK.1 h3,EY]at h4;cases h4
  ·rw[EY]at zm
   gi_wp2
   gi_region_with_o (fail)
   all_goals
    gi_wp2_with (refine⟨trivial,?_⟩;gi_at_call 146;refine(CallsIn.inRound l (callsIn_wide.2 hj)).mono ?_;rintro e w' ⟨rfl,tI,cZ⟩)
    refine⟨KeepsFrom.of_grownBy (W:=W) (row:=zc gN) ⟨cZ.os,cZ.tape,cZ.output,cZ.size,cZ.block⟩ (λj e=>by cases e;omega),λk hk=>?_,ht.grown (A:=W) (o:=zc gN) ⟨cZ.os,cZ.tape,cZ.output,cZ.size,cZ.block⟩ (λg e=>by cases e;exact .inl rfl),kS U x,⟨tI,JH U hU.lt x⟩,λq=>?_⟩
    ·refine cZ.block k ?_ (λe=>?_)
     ·have:=ht.size;simp at hk;show k<W.heap.size;omega
     ·have e':k=gN:=by simpa using e
      simp at hk;omega
    ·rw[Jv,Dy,sK,gX,lx];constructor
     ·rintro (⟨h3,h4⟩|rfl)
      ·exact⟨fm.2 (.inl h3),h4⟩
      ·exact⟨by simp,EY⟩
     ·rintro ⟨h3,h4⟩;rcases fm.1 h3 with h3|h3
      ·exact .inl ⟨h3,h4⟩
      ·exact .inr (eK.1 h3)
 case done=>
  rintro D ys W hD iu ⟨ht,U,hU,gX⟩ hK;have z5:W.cell? ⟨w1.heap.size,0,za⟩=zc (ze (zc ⟨gN,0,za⟩) nw nw):=(aM _ _ _ _ _ _ ((ht.same _ (by omega) (by omega)).trans x5):W.cell? ⟨w1.heap.size,0,za⟩=_)
  gi_wp2
  have qK:=grownBy_putObj' W D (.deferred za);refine⟨by simp,.inl ⟨_,_,rfl,run_takeDeferred hK,?_⟩⟩;have qd:=ht.grown qK (λg e=>.inr (by cases e;exact hD));refine⟨ze (zc ⟨gN,0,za⟩) nw nw,by simp[results,results170,go_sem],gN,U,rfl,by omega,⟨(World.putObj_heap_other (by omega)).trans hU.row,hU.lt⟩,λq=>?_,?_⟩
  ·exact(gX q).trans ((and_congr (iu q) Iff.rfl).trans and_assoc)
  ·exact⟨qd.os.trans af.os,qd.tape.trans af.tape,qd.output.trans af.output,aW af.size qd.size,λk hk=>(qd.same k (by omega) (by omega)).trans (af.block k hk)⟩
end Go.Proofs.YtdimhpfiieepiaaGreatDoor
