import Derived.Test.YthddplbodacjgaaGreatDoorC10
namespace Go.Proofs.YthddplbodacjgaaGreatDoor
set_option maxHeartbeats 4000000
set_option maxRecDepth 100000
open Go.RowKit
attribute [local go_sem] Oper.semAt_some
def PosR(w:World)(nw:Nat)(P:Nat->Prop)(e:Ending)(w':World):Prop:=
 ∃(g:Nat) (U:Nat->Nat),e=.returned (.slice (some ⟨g,0,none⟩) nw nw)/\w.heap.size<=g/\zaB w' nw g U/\(∀q,zaA U q=true↔P q)/\Below w.heap.size w w'
theorem zqh(n nw bt g1 c1:Nat)(sv fv:Value)(fr:Nat->Nat)(F:Nat->Nat->Nat)(T1:Nat->Nat)(w:World)
  (hbox:zeb w bt nw sv fv) (hfv:0<n->∃gf cf:Nat,fv=.slice (some ⟨gf,0,none⟩) n cf/\gf<w.heap.size/\(∀p,p<n->w.cell? ⟨gf,p,none⟩=some (.slice (some ⟨fr p,0,none⟩) nw nw))/\∀p,p<n->fr p≠gf) (hF:Fol w n nw fr F) (h1:zaB w nw g1 T1)
  (hm:∀p,p<64*nw->zaA T1 p=true->p<n) (hnw:nw<=1000) (hB:zbj w) (h0:0<w.heap.size):
  Calls Tryz.prog 56 #[.pointer (some ⟨bt,0,none⟩),.slice (some ⟨g1,0,none⟩) nw c1] w fun e w'=>PosR w nw (fun q=>∃p,p<64*nw/\zaA T1 p=true/\zaA (F p) q=true) e w':=by
 refine(callsIn_wide (n:=5)).1 ?_;refine callsIn_of_wp_marks Tryz.func56 rfl trivial ?_ rfl;simp only[Tryz.ntmps56,zuo,zt2,zt4,Nat.reduceAdd,Nat.reduceSub,ztr,zts,zum,ztE,zuj,ztF];have hbt:bt<w.heap.size:=(ztp.1 hbox).1;have ha0:Below w.heap.size w (w.alloc (.cells #[.pointer (some ⟨bt,0,none⟩)] 100)):=(Below.refl _ _).alloc (zuz _) _;have hno:=zeq nw bt sv _ (w.alloc (.cells #[.pointer (some ⟨bt,0,none⟩)] 100)) ((ha0.block bt hbt).trans hbox) hnw
 gi_wp2_with (refine⟨trivial,?_⟩;gi_at_call 50;refine(callsIn_wide.2 hno).mono ?_;rintro e w1 ⟨rfl,hz1,hg1⟩)
 have hb1:Below w.heap.size w w1:=ha0.grown hg1 (by simp) (fun k e=>by cases e);simp only[World.size_alloc] at hz1;have hzl:=hz1.glt;obtain⟨gN,hgN⟩:∃gN,gN=w.heap.size+1:=⟨_,rfl⟩;rw[<-hgN] at hz1 hzl ⊢;have hgl:w.heap.size<gN:=by omega
 clear hgN;have k0:w1.heap[w.heap.size]?=some (.cells #[.pointer (some ⟨bt,0,none⟩)] 100 (0,0)):=(hg1.block _ (by simp) (by simp)).trans (zuR _ _);obtain⟨W0,hW0⟩:∃W0,w1.alloc (.cells #[.slice (some ⟨gN,0,none⟩) nw nw] 105)=W0:=⟨_,rfl⟩;have hb0:Below w.heap.size w W0:=by rw[<-hW0];exact hb1.alloc hb1.size _
 have hsz:W0.heap.size=w1.heap.size+1:=by rw[<-hW0];simp
 have x2:W0.heap[w.heap.size]?=some (.cells #[.pointer (some ⟨bt,0,none⟩)] 100 (0,0)):=by rw[<-hW0];exact zao k0
 have x5:W0.heap[w1.heap.size]?=some (.cells #[.slice (some ⟨gN,0,none⟩) nw nw] 105 (0,0)):=by rw[<-hW0];exact zuR _ _
 have yN:zaB W0 nw gN zbm:=by rw[<-hW0];exact⟨zao hz1.row,hz1.lt⟩
 rw[hW0];clear hW0 k0 hz1 hno;have hfl:∀p,p<n->fr p<w.heap.size:=fun p hp=>(hF.rows p hp).glt
 have hg1l:=h1.glt;have y1:zaB W0 nw g1 T1:=h1.below hb0;have yb:zbj W0:=hB.keep (hb0.block 0 h0);have yx:zeb W0 bt nw sv fv:=(hb0.block bt hbt).trans hbox;have yr:∀p,p<n->zaB W0 nw (fr p) (F p):=fun p hp=>(hF.rows p hp).below hb0
 refine zcF (by omega) (gf:=80) (fb:=#[.slice (some ⟨g1,0,none⟩) nw c1]) (lb:=#[]) rfl (enters_of Tryz.func80 (by kernel_rfl) rfl)
  (T:=[0,g1]) (by intro k hk;have:=y1.glt;simp at hk;omega)
  (zci 4 nw g1 c1 T1 (by omega) hnw W0 y1 yb) (fun _=>rfl)
  (fun pre W=>zaM (fun k=>k=gN) W0 W/\∃U,zaB W nw gN U/\∀q,zaA U q=true↔∃p,p∈zbt pre/\zaA (F p) q=true)
  (fun _ _ _=>False)
  (fun s A B hs ht=>⟨hs.1.turn ht,by obtain⟨U,h1,h2⟩:=hs.2;exact⟨U,⟨ht.same _ _ h1.row (.inr rfl),h1.lt⟩,h2⟩⟩)
  (fun c s A B hs ht=>hs)
  ⟨zaM.refl _ _,zbm,yN,fun q=>by rw[zcT];simp[zbt]⟩
  (fun x=>{tmps:=#[.pointer (some ⟨bt,0,none⟩),.slice (some ⟨g1,0,none⟩) nw c1,.pointer (some ⟨w.heap.size,0,none⟩),undef,.slice none 0 0,.pointer (some ⟨w1.heap.size,0,none⟩),.int .i64 (x.1:Int),.pointer (some ⟨bt,0,none⟩),.slice (some ⟨gN,0,none⟩) nw nw,.slice (some ⟨g1,0,none⟩) nw c1,.func (.func 80) #[.slice (some ⟨g1,0,none⟩) nw c1] #[],.int .i64 (x.1:Int),undef,undef,undef,undef,undef,undef,undef,undef,undef,undef],defers:=[]})
  ?assign ?body ?done ?stop
 case assign=>
  intro l x W K hK
  gi_wp2
  exact hK
 case stop=>
  rintro D c pre W hD _ hf;exact hf.elim
 case body=>
  rintro l pre ⟨x,hx⟩ W hl ⟨ht,U,hU,hUb⟩ hlen;have hxn:=hm x hx.1 hx.2;obtain⟨gf,cf,rfl,hgf,hfv,-⟩:=hfv (by omega);have yf:∀p,p<n->W0.cell? ⟨gf,p,none⟩=some (.slice (some ⟨fr p,0,none⟩) nw nw):=fun p hp=>(hb0.cell (p:=⟨gf,p,none⟩) hgf).trans (hfv p hp)
  have hfx:=hfl x hxn;have z3:W.cell? ⟨w.heap.size,0,none⟩=some (.pointer (some ⟨bt,0,none⟩)):=(zuO _ _ _ _ _ _ ((ht.same _ (by omega) (by omega)).trans x2):W.cell? ⟨w.heap.size,0,none⟩=_);have z5:W.cell? ⟨w1.heap.size,0,none⟩=some (.slice (some ⟨gN,0,none⟩) nw nw):=(zuO _ _ _ _ _ _ ((ht.same _ (by omega) (by omega)).trans x5):W.cell? ⟨w1.heap.size,0,none⟩=_);have zb:W.cell? ⟨bt,2,none⟩=some (.slice (some ⟨gf,0,none⟩) n cf):=(zuO _ _ _ _ _ _ ((ht.same bt (by omega) (by omega)).trans yx):W.cell? ⟨bt,2,none⟩=_);have zf:W.cell? ⟨gf,x,none⟩=some (.slice (some ⟨fr x,0,none⟩) nw nw):=(show W.cell? ⟨gf,x,none⟩=W0.cell? ⟨gf,x,none⟩ from World.cell?_of_block (ht.same gf (by omega) (by omega))).trans (yf x hxn);have hfr:=(yr x hxn).touch ht (by omega);have hj:=zdx nw gN (fr x) nw nw U (F x) W.drew ⟨hU.row,hU.lt⟩ ⟨hfr.row,hfr.lt⟩ (by omega) hnw;have hi0:(0:Int)<=(x:Int):=by omega
  have hi1:(x:Int)<(n:Int):=by omega
  have hmix:Tryz.prog.follows .mixedOrders=true:=by kernel_rfl
  dsimp only
  gi_wp2
  gi_region_with_o (refine⟨trivial,?_⟩;gi_at_call 57;refine(CallsIn.inRound l (callsIn_wide.2 hj)).mono ?_;rintro e w' ⟨rfl,hp',hg'⟩)
  all_goals
   gi_wp2
   refine⟨KeepsFrom.of_grownBy (W:=W) (row:=some gN) ⟨hg'.os,hg'.tape,hg'.output,hg'.size,hg'.block⟩ (fun j e=>by cases e;omega),fun k hk=>?_,ht.grown (A:=W) (o:=some gN) ⟨hg'.os,hg'.tape,hg'.output,hg'.size,hg'.block⟩ (fun g e=>by cases e;exact .inl rfl),orT U (F x),hp',fun q=>?_⟩
   ·refine hg'.block k ?_ (fun e=>?_)
    ·have:=ht.size;simp at hk;show k<W.heap.size;omega
    ·have e':k=gN:=by simpa using e
     simp at hk;omega
   ·rw[zg3,zbQ,ztw,hUb];constructor
    ·rintro (⟨p,h3,h4⟩|h3)
     ·exact⟨p,zuc.2 (.inl h3),h4⟩
     ·exact⟨x,by simp,h3⟩
    ·rintro ⟨p,h3,h4⟩;rcases zuc.1 h3 with h3|h3
     ·exact .inl ⟨p,h3,h4⟩
     ·exact .inr (by rw[zui.1 h3] at h4;exact h4)
 case done=>
  rintro D ys W hD hys ⟨ht,U,hU,hUb⟩ hK;have z5:W.cell? ⟨w1.heap.size,0,none⟩=some (.slice (some ⟨gN,0,none⟩) nw nw):=(zuO _ _ _ _ _ _ ((ht.same _ (by omega) (by omega)).trans x5):W.cell? ⟨w1.heap.size,0,none⟩=_)
  gi_wp2
  have hgp:=grownBy_putObj' W D (.deferred none);refine⟨by simp,.inl ⟨_,_,rfl,run_takeDeferred hK,?_⟩⟩;have htf:=ht.grown hgp (fun g e=>.inr (by cases e;exact hD));refine⟨.slice (some ⟨gN,0,none⟩) nw nw,by simp[results,Tryz.results56,go_sem],gN,U,rfl,by omega,⟨(World.putObj_heap_other (by omega)).trans hU.row,hU.lt⟩,fun q=>?_,?_⟩
  ·rw[hUb];constructor
   ·rintro ⟨p,h3,h4⟩;have:=(hys p).1 h3;exact⟨p,this.1,this.2,h4⟩
   ·rintro ⟨p,h3,h4,h5⟩;exact⟨p,(hys p).2 ⟨h3,h4⟩,h5⟩
  ·exact⟨htf.os.trans hb0.os,htf.tape.trans hb0.tape,htf.output.trans hb0.output,zuA hb0.size htf.size,fun k hk=>(htf.same k (by omega) (by omega)).trans (hb0.block k hk)⟩
end Go.Proofs.YthddplbodacjgaaGreatDoor
