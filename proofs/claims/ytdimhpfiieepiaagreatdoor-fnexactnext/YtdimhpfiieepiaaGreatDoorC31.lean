import Derived.Test.YtdimhpfiieepiaaGreatDoorC30
namespace Go.Proofs.YtdimhpfiieepiaaGreatDoor
open Proofs.Tryz
open Option renaming none->za,some->zc
open Value renaming pointer->zd,slice->ze
open Obj renaming cells->zg
set_option maxHeartbeats 4000000
set_option maxRecDepth 100000
open Go.RowKit
attribute [local go_sem] Oper.semAt_some
theorem zkz(n nw bt g1 c1 c:Nat)(sv fv:Value)(mk:Nat->Nat)(f:Nat->Nat->Bool)(T1:Nat->Nat)(w:World)
  (gU:vf w bt nw sv fv) (di:0<n->∃gs cs:Nat,sv=ze (zc ⟨gs,0,za⟩) n cs/\gs<w.heap.size/\∀p,p<n->w.cell? ⟨gs,p,za⟩=zc (zd (zc ⟨mk p,0,za⟩))) (xu:∀p,p<n->w.heap[mk p]?=zc (zg (dv (f p)) 293 (0,0))) (h1:aH w nw g1 T1)
  (hm:∀p,p<64*nw->ax T1 p=true->p<n) (bV:nw<=1000) (hc:c<256) (hB:fG w) (h0:0<w.heap.size):
  Calls prog 170 #[zd (zc ⟨bt,0,za⟩),ze (zc ⟨g1,0,za⟩) nw c1,.int .u8 c] w λe w'=>zxg w nw (λq=>q<64*nw/\ax T1 q=true/\f q c=true) e w':=by
 refine(callsIn_wide (n:=5)).1 ?_;refine callsIn_of_wp_marks func170 rfl trivial ?_ rfl;simp only[ntmps170,yh,qg,oA,Nat.reduceAdd,Nat.reduceSub,Bl,Bm,Br,Bs,wJ,Bt];have jN:bt<w.heap.size:=(ap.1 gU).1;have Cj:Below w.heap.size w ((w.alloc (zg #[zd (zc ⟨bt,0,za⟩)] 224)).alloc (zg #[.int .u8 c] 5)):=(au).alloc (by simp) _;have hno:=Fl nw bt _ fv ((w.alloc (zg #[zd (zc ⟨bt,0,za⟩)] 224)).alloc (zg #[.int .u8 c] 5)) ((Cj.block bt jN).trans gU) bV
 gi_wp2_with (refine⟨trivial,?_⟩;gi_at_call 164;refine(callsIn_wide.2 hno).mono ?_;rintro e w1 ⟨rfl,bh,eC⟩)
 have ak:Below w.heap.size w w1:=Cj.grown eC (by simp;omega) (λk e=>by cases e);simp only[World.size_alloc]at bh;have KW:=bh.cj;obtain⟨gN,GG⟩:∃gN,gN=w.heap.size+1+1:=⟨_,rfl⟩;rw[<-GG]at bh KW ⊢;have fC:w.heap.size+1<gN:=by omega
 clear GG;have k0:w1.heap[w.heap.size]?=zc (zg #[zd (zc ⟨bt,0,za⟩)] 224 (0,0)):=(eC.block _ (by simp;omega) (by simp)).trans (cQ (aL _ _));have k1:w1.heap[w.heap.size+1]?=zc (zg #[.int .u8 c] 5 (0,0)):=by
  refine(eC.block _ (by simp) (by simp)).trans ?_;have:=aL (w.alloc (zg #[zd (zc ⟨bt,0,za⟩)] 224)) (zg #[.int .u8 c] 5)
  simpa using this
 obtain⟨W0,ah⟩:∃W0,w1.alloc (zg #[ze (zc ⟨gN,0,za⟩) nw nw] 193)=W0:=⟨_,rfl⟩;have ae:Below w.heap.size w W0:=by rw[<-ah];exact ak.alloc ak.size _
 have hsz:W0.heap.size=w1.heap.size+1:=by rw[<-ah];simp
 have x2:W0.heap[w.heap.size]?=zc (zg #[zd (zc ⟨bt,0,za⟩)] 224 (0,0)):=by rw[<-ah];exact cQ k0
 have x4:W0.heap[w.heap.size+1]?=zc (zg #[.int .u8 c] 5 (0,0)):=by rw[<-ah];exact cQ k1
 have x5:W0.heap[w1.heap.size]?=zc (zg #[ze (zc ⟨gN,0,za⟩) nw nw] 193 (0,0)):=by rw[<-ah];exact aL _ _
 have yN:aH W0 nw gN cK:=by rw[<-ah];exact⟨cQ bh.row,bh.lt⟩
 rw[ah];clear ah k0 k1 bh hno;have mQ:∀p,p<n->mk p<w.heap.size:=λp hp=>(ap.1 (xu p hp)).1
 have zvE:=h1.cj;have y1:aH W0 nw g1 T1:=h1.below ae;have yb:fG W0:=hB.keep (ae.block 0 h0);have yx:vf W0 bt nw sv fv:=(ae.block bt jN).trans gU;have yr:∀p,p<n->W0.heap[mk p]?=zc (zg (dv (f p)) 293 (0,0)):=λp hp=>(ae.block _ (mQ p hp)).trans (xu p hp)
 refine Ie (by omega) (gf:=165) (fb:=#[ze (zc ⟨g1,0,za⟩) nw c1]) (lb:=#[]) rfl (enters_of func165 (by kernel_rfl) rfl)
  (T:=[0,g1]) (by intro k hk;have:=y1.cj;simp at hk;omega)
  (LI 4 nw g1 c1 T1 (by omega) bV W0 y1 yb) (λ_=>rfl)
  (λpre W=>aE (λk=>k=gN) W0 W/\∃U,aH W nw gN U/\∀q,ax U q=true↔q∈jC pre/\f q c=true)
  (λ_ _ _=>False)
  (λs A B hs ht=>⟨hs.1.turn ht,by obtain⟨U,h1,h2⟩:=hs.2;exact⟨U,⟨ht.same _ _ h1.row (.inr rfl),h1.lt⟩,h2⟩⟩)
  (λc s A B hs ht=>hs)
  ⟨aE.refl _ _,cK,yN,λq=>by rw[Ba];simp[jC]⟩
  (λx=>{tmps:=#[zd (zc ⟨bt,0,za⟩),ze (zc ⟨g1,0,za⟩) nw c1,.int .u8 c,zd (zc ⟨w.heap.size,0,za⟩),undef,zd (zc ⟨w.heap.size+1,0,za⟩),ze za 0 0,zd (zc ⟨w1.heap.size,0,za⟩),.int .i64 (x.1:Int),zd (zc ⟨bt,0,za⟩),ze (zc ⟨gN,0,za⟩) nw nw,ze (zc ⟨g1,0,za⟩) nw c1,.func (.func 165) #[ze (zc ⟨g1,0,za⟩) nw c1] #[],.int .i64 (x.1:Int),undef,undef,undef,undef,undef,undef,undef,undef,undef,undef,undef,undef,undef,undef,undef],defers:=[]})
  ?assign ?body ?done ?stop
 case assign=>
  intro l x W K hK
  gi_wp2
  exact hK
 case stop=>
  rintro D c pre W hD _ hf;exact hf.elim
 case body=>
  rintro l pre ⟨x,hx⟩ W hl ⟨ht,U,hU,gT⟩ hlen;have fF:=hm x hx.1 hx.2;obtain⟨gs,cs,rfl,oW,di⟩:=di (by omega);have yf:∀p,p<n->W0.cell? ⟨gs,p,za⟩=zc (zd (zc ⟨mk p,0,za⟩)):=λp hp=>(ae.cell (p:=⟨gs,p,za⟩) oW).trans (di p hp)
  have hfx:=mQ x fF;have z3:W.cell? ⟨w.heap.size,0,za⟩=zc (zd (zc ⟨bt,0,za⟩)):=(aO _ _ _ _ _ _ ((ht.same _ (by omega) (by omega)).trans x2):W.cell? ⟨w.heap.size,0,za⟩=_);have z4:W.cell? ⟨w.heap.size+1,0,za⟩=zc (.int .u8 c):=(aO _ _ _ _ _ _ ((ht.same _ (by omega) (by omega)).trans x4):W.cell? ⟨w.heap.size+1,0,za⟩=_);have z5:W.cell? ⟨w1.heap.size,0,za⟩=zc (ze (zc ⟨gN,0,za⟩) nw nw):=(aO _ _ _ _ _ _ ((ht.same _ (by omega) (by omega)).trans x5):W.cell? ⟨w1.heap.size,0,za⟩=_);have zb:W.cell? ⟨bt,1,za⟩=zc (ze (zc ⟨gs,0,za⟩) n cs):=(aO _ _ _ _ _ _ ((ht.same bt (by omega) (by omega)).trans yx):W.cell? ⟨bt,1,za⟩=_);have zf:W.cell? ⟨gs,x,za⟩=zc (zd (zc ⟨mk x,0,za⟩)):=(show W.cell? ⟨gs,x,za⟩=W0.cell? ⟨gs,x,za⟩from World.cell?_of_block (ht.same gs (by omega) (by omega))).trans (yf x fF);have zm:W.cell? ⟨mk x,c,za⟩=zc (.bool (f x c)):=by
   rw[aO _ _ _ _ _ _ ((ht.same (mk x) (by omega) (by omega)).trans (yr x fF)),O4 _ _ hc]
  have hj:=Fj nw gN nw U x W.drew hU.row (by omega) bV hU.lt;have dO:(0:Int)<=(x:Int):=by omega
  have dh:(x:Int)<(n:Int):=by omega
  have xh:(0:Int)<=(c:Int):=by omega
  have qq:(c:Int)<256:=by omega
  have fU:prog.follows .mixedOrders=true:=by kernel_rfl
  dsimp only;cases Eb:f x c
  ·rw[Eb]at zm
   gi_wp2
   gi_region_with_o (fail)
   all_goals
    gi_wp2
    refine⟨⟨ai _,λ_ _ _ h _=>h⟩,λ_ _=>rfl,⟨ht.os,ht.tape,ht.output,ht.size,ht.same⟩,U,⟨hU.row,hU.lt⟩,λq=>?_⟩;rw[gT,CZ];constructor
    ·rintro ⟨h3,h4⟩;exact⟨er.2 (.inl h3),h4⟩
    ·rintro ⟨h3,h4⟩;rcases er.1 h3 with h3|h3
     ·exact⟨h3,h4⟩
     ·rw[eM.1 h3,Eb]at h4;cases h4
  ·rw[Eb]at zm
   gi_wp2
   gi_region_with_o (fail)
   all_goals
    gi_wp2_with (refine⟨trivial,?_⟩;gi_at_call 146;refine(CallsIn.inRound l (callsIn_wide.2 hj)).mono ?_;rintro e w' ⟨rfl,tj,cY⟩)
    refine⟨KeepsFrom.of_grownBy (W:=W) (row:=zc gN) ⟨cY.os,cY.tape,cY.output,cY.size,cY.block⟩ (λj e=>by cases e;omega),λk hk=>?_,ht.grown (A:=W) (o:=zc gN) ⟨cY.os,cY.tape,cY.output,cY.size,cY.block⟩ (λg e=>by cases e;exact .inl rfl),kP U x,⟨tj,IA U hU.lt x⟩,λq=>?_⟩
    ·refine cY.block k ?_ (λe=>?_)
     ·have:=ht.size;simp at hk;show k<W.heap.size;omega
     ·have e':k=gN:=by simpa using e
      simp at hk;omega
    ·rw[Il,CZ,sw,gT,oD];constructor
     ·rintro (⟨h3,h4⟩|rfl)
      ·exact⟨er.2 (.inl h3),h4⟩
      ·exact⟨by simp,Eb⟩
     ·rintro ⟨h3,h4⟩;rcases er.1 h3 with h3|h3
      ·exact .inl ⟨h3,h4⟩
      ·exact .inr (eM.1 h3)
 case done=>
  rintro D ys W hD jR ⟨ht,U,hU,gT⟩ hK;have z5:W.cell? ⟨w1.heap.size,0,za⟩=zc (ze (zc ⟨gN,0,za⟩) nw nw):=(aO _ _ _ _ _ _ ((ht.same _ (by omega) (by omega)).trans x5):W.cell? ⟨w1.heap.size,0,za⟩=_)
  gi_wp2
  have qw:=grownBy_putObj' W D (.deferred za);refine⟨by simp,.inl ⟨_,_,rfl,run_takeDeferred hK,?_⟩⟩;have pQ:=ht.grown qw (λg e=>.inr (by cases e;exact hD));refine⟨ze (zc ⟨gN,0,za⟩) nw nw,by simp[results,results170,go_sem],gN,U,rfl,by omega,⟨(World.putObj_heap_other (by omega)).trans hU.row,hU.lt⟩,λq=>?_,?_⟩
  ·exact(gT q).trans ((and_congr (jR q) Iff.rfl).trans and_assoc)
  ·exact⟨pQ.os.trans ae.os,pQ.tape.trans ae.tape,pQ.output.trans ae.output,aU ae.size pQ.size,λk hk=>(pQ.same k (by omega) (by omega)).trans (ae.block k hk)⟩
end Go.Proofs.YtdimhpfiieepiaaGreatDoor
