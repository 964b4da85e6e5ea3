import Derived.Test.YtdimhpfiieepiaaGreatDoorC30
namespace Go.Proofs.YtdimhpfiieepiaaGreatDoor
set_option maxHeartbeats 4000000
set_option maxRecDepth 100000
open Go.RowKit
attribute [local go_sem] Oper.semAt_some
theorem zkR(n nw bt g1 c1 c:Nat)(sv fv:Value)(mk:Nat->Nat)(f:Nat->Nat->Bool)(T1:Nat->Nat)(w:World)
  (hbox:zfu w bt nw sv fv) (hsv:0<n->∃gs cs:Nat,sv=.slice (some ⟨gs,0,none⟩) n cs/\gs<w.heap.size/\∀p,p<n->w.cell? ⟨gs,p,none⟩=some (.pointer (some ⟨mk p,0,none⟩))) (hmk:∀p,p<n->w.heap[mk p]?=some (.cells (zas (f p)) 293 (0,0))) (h1:zar w nw g1 T1)
  (hm:∀p,p<64*nw->zai T1 p=true->p<n) (hnw:nw<=1000) (hc:c<256) (hB:za7 w) (h0:0<w.heap.size):
  Calls Tryz.prog 170 #[.pointer (some ⟨bt,0,none⟩),.slice (some ⟨g1,0,none⟩) nw c1,.int .u8 c] w fun e w'=>PosR w nw (fun q=>q<64*nw/\zai T1 q=true/\f q c=true) e w':=by
 refine(callsIn_wide (n:=5)).1 ?_;refine callsIn_of_wp_marks Tryz.func170 rfl trivial ?_ rfl;simp only[Tryz.ntmps170,zvA,zvi,zvk,Nat.reduceAdd,Nat.reduceSub,zuI,zuJ,zvx,zuT,zvw,zuU];have hbt:bt<w.heap.size:=(zuH.1 hbox).1;have ha0:Below w.heap.size w ((w.alloc (.cells #[.pointer (some ⟨bt,0,none⟩)] 224)).alloc (.cells #[.int .u8 c] 5)):=((Below.refl _ _).alloc (zvJ _) _).alloc (by simp) _;have hno:=zeO nw bt _ fv ((w.alloc (.cells #[.pointer (some ⟨bt,0,none⟩)] 224)).alloc (.cells #[.int .u8 c] 5)) ((ha0.block bt hbt).trans hbox) hnw
 gi_wp2_with (refine⟨trivial,?_⟩;gi_at_call 164;refine(callsIn_wide.2 hno).mono ?_;rintro e w1 ⟨rfl,hz1,hg1⟩)
 have hb1:Below w.heap.size w w1:=ha0.grown hg1 (by simp;omega) (fun k e=>by cases e);simp only[World.size_alloc] at hz1;have hzl:=hz1.glt;obtain⟨gN,hgN⟩:∃gN,gN=w.heap.size+1+1:=⟨_,rfl⟩;rw[<-hgN] at hz1 hzl ⊢;have hgl:w.heap.size+1<gN:=by omega
 clear hgN;have k0:w1.heap[w.heap.size]?=some (.cells #[.pointer (some ⟨bt,0,none⟩)] 224 (0,0)):=(hg1.block _ (by simp;omega) (by simp)).trans (zak (zvZ _ _));have k1:w1.heap[w.heap.size+1]?=some (.cells #[.int .u8 c] 5 (0,0)):=by
  refine(hg1.block _ (by simp) (by simp)).trans ?_;have:=zvZ (w.alloc (.cells #[.pointer (some ⟨bt,0,none⟩)] 224)) (.cells #[.int .u8 c] 5)
  simpa using this
 obtain⟨W0,hW0⟩:∃W0,w1.alloc (.cells #[.slice (some ⟨gN,0,none⟩) nw nw] 193)=W0:=⟨_,rfl⟩;have hb0:Below w.heap.size w W0:=by rw[<-hW0];exact hb1.alloc hb1.size _
 have hsz:W0.heap.size=w1.heap.size+1:=by rw[<-hW0];simp
 have x2:W0.heap[w.heap.size]?=some (.cells #[.pointer (some ⟨bt,0,none⟩)] 224 (0,0)):=by rw[<-hW0];exact zak k0
 have x4:W0.heap[w.heap.size+1]?=some (.cells #[.int .u8 c] 5 (0,0)):=by rw[<-hW0];exact zak k1
 have x5:W0.heap[w1.heap.size]?=some (.cells #[.slice (some ⟨gN,0,none⟩) nw nw] 193 (0,0)):=by rw[<-hW0];exact zvZ _ _
 have yN:zar W0 nw gN za0:=by rw[<-hW0];exact⟨zak hz1.row,hz1.lt⟩
 rw[hW0];clear hW0 k0 k1 hz1 hno;have hfl:∀p,p<n->mk p<w.heap.size:=fun p hp=>(zuH.1 (hmk p hp)).1
 have hg1l:=h1.glt;have y1:zar W0 nw g1 T1:=h1.below hb0;have yb:za7 W0:=hB.keep (hb0.block 0 h0);have yx:zfu W0 bt nw sv fv:=(hb0.block bt hbt).trans hbox;have yr:∀p,p<n->W0.heap[mk p]?=some (.cells (zas (f p)) 293 (0,0)):=fun p hp=>(hb0.block _ (hfl p hp)).trans (hmk p hp)
 refine zct (by omega) (gf:=165) (fb:=#[.slice (some ⟨g1,0,none⟩) nw c1]) (lb:=#[]) rfl (enters_of Tryz.func165 (by kernel_rfl) rfl)
  (T:=[0,g1]) (by intro k hk;have:=y1.glt;simp at hk;omega)
  (zcC 4 nw g1 c1 T1 (by omega) hnw W0 y1 yb) (fun _=>rfl)
  (fun pre W=>zam (fun k=>k=gN) W0 W/\∃U,zar W nw gN U/\∀q,zai U q=true↔q∈zco pre/\f q c=true)
  (fun _ _ _=>False)
  (fun s A B hs ht=>⟨hs.1.turn ht,by obtain⟨U,h1,h2⟩:=hs.2;exact⟨U,⟨ht.same _ _ h1.row (.inr rfl),h1.lt⟩,h2⟩⟩)
  (fun c s A B hs ht=>hs)
  ⟨zam.refl _ _,za0,yN,fun q=>by rw[zcg];simp[zco]⟩
  (fun x=>{tmps:=#[.pointer (some ⟨bt,0,none⟩),.slice (some ⟨g1,0,none⟩) nw c1,.int .u8 c,.pointer (some ⟨w.heap.size,0,none⟩),undef,.pointer (some ⟨w.heap.size+1,0,none⟩),.slice none 0 0,.pointer (some ⟨w1.heap.size,0,none⟩),.int .i64 (x.1:Int),.pointer (some ⟨bt,0,none⟩),.slice (some ⟨gN,0,none⟩) nw nw,.slice (some ⟨g1,0,none⟩) nw c1,.func (.func 165) #[.slice (some ⟨g1,0,none⟩) nw c1] #[],.int .i64 (x.1:Int),undef,undef,undef,undef,undef,undef,undef,undef,undef,undef,undef,undef,undef,undef,undef],defers:=[]})
  ?assign ?body ?done ?stop
 case assign=>
  intro l x W K hK
  gi_wp2
  exact hK
 case stop=>
  rintro D c pre W hD _ hf;exact hf.elim
 case body=>
  rintro l pre ⟨x,hx⟩ W hl ⟨ht,U,hU,hUb⟩ hlen;have hxn:=hm x hx.1 hx.2;obtain⟨gs,cs,rfl,hgs,hsv⟩:=hsv (by omega);have yf:∀p,p<n->W0.cell? ⟨gs,p,none⟩=some (.pointer (some ⟨mk p,0,none⟩)):=fun p hp=>(hb0.cell (p:=⟨gs,p,none⟩) hgs).trans (hsv p hp)
  have hfx:=hfl x hxn;have z3:W.cell? ⟨w.heap.size,0,none⟩=some (.pointer (some ⟨bt,0,none⟩)):=(zvW _ _ _ _ _ _ ((ht.same _ (by omega) (by omega)).trans x2):W.cell? ⟨w.heap.size,0,none⟩=_);have z4:W.cell? ⟨w.heap.size+1,0,none⟩=some (.int .u8 c):=(zvW _ _ _ _ _ _ ((ht.same _ (by omega) (by omega)).trans x4):W.cell? ⟨w.heap.size+1,0,none⟩=_);have z5:W.cell? ⟨w1.heap.size,0,none⟩=some (.slice (some ⟨gN,0,none⟩) nw nw):=(zvW _ _ _ _ _ _ ((ht.same _ (by omega) (by omega)).trans x5):W.cell? ⟨w1.heap.size,0,none⟩=_);have zb:W.cell? ⟨bt,1,none⟩=some (.slice (some ⟨gs,0,none⟩) n cs):=(zvW _ _ _ _ _ _ ((ht.same bt (by omega) (by omega)).trans yx):W.cell? ⟨bt,1,none⟩=_);have zf:W.cell? ⟨gs,x,none⟩=some (.pointer (some ⟨mk x,0,none⟩)):=(show W.cell? ⟨gs,x,none⟩=W0.cell? ⟨gs,x,none⟩ from World.cell?_of_block (ht.same gs (by omega) (by omega))).trans (yf x hxn);have zm:W.cell? ⟨mk x,c,none⟩=some (.bool (f x c)):=by
   rw[zvW _ _ _ _ _ _ ((ht.same (mk x) (by omega) (by omega)).trans (yr x hxn)),zdh _ _ hc]
  have hj:=zeG nw gN nw U x W.drew hU.row (by omega) hnw hU.lt;have hi0:(0:Int)<=(x:Int):=by omega
  have hi1:(x:Int)<(n:Int):=by omega
  have hc0:(0:Int)<=(c:Int):=by omega
  have hc1:(c:Int)<256:=by omega
  have hmix:Tryz.prog.follows .mixedOrders=true:=by kernel_rfl
  dsimp only;cases hfc:f x c
  ·rw[hfc] at zm
   gi_wp2
   gi_region_with_o (fail)
   all_goals
    gi_wp2
    refine⟨⟨zvJ _,fun _ _ _ h _=>h⟩,fun _ _=>rfl,⟨ht.os,ht.tape,ht.output,ht.size,ht.same⟩,U,⟨hU.row,hU.lt⟩,fun q=>?_⟩;rw[hUb,zb6];constructor
    ·rintro ⟨h3,h4⟩;exact⟨zvo.2 (.inl h3),h4⟩
    ·rintro ⟨h3,h4⟩;rcases zvo.1 h3 with h3|h3
     ·exact⟨h3,h4⟩
     ·rw[zvv.1 h3,hfc] at h4;cases h4
  ·rw[hfc] at zm
   gi_wp2
   gi_region_with_o (fail)
   all_goals
    gi_wp2_with (refine⟨trivial,?_⟩;gi_at_call 146;refine(CallsIn.inRound l (callsIn_wide.2 hj)).mono ?_;rintro e w' ⟨rfl,hp',hg'⟩)
    refine⟨KeepsFrom.of_grownBy (W:=W) (row:=some gN) ⟨hg'.os,hg'.tape,hg'.output,hg'.size,hg'.block⟩ (fun j e=>by cases e;omega),fun k hk=>?_,ht.grown (A:=W) (o:=some gN) ⟨hg'.os,hg'.tape,hg'.output,hg'.size,hg'.block⟩ (fun g e=>by cases e;exact .inl rfl),addT U x,⟨hp',zfw U hU.lt x⟩,fun q=>?_⟩
    ·refine hg'.block k ?_ (fun e=>?_)
     ·have:=ht.size;simp at hk;show k<W.heap.size;omega
     ·have e':k=gN:=by simpa using e
      simp at hk;omega
    ·rw[zel,zb6,zuM,hUb,zvX];constructor
     ·rintro (⟨h3,h4⟩|rfl)
      ·exact⟨zvo.2 (.inl h3),h4⟩
      ·exact⟨by simp,hfc⟩
     ·rintro ⟨h3,h4⟩;rcases zvo.1 h3 with h3|h3
      ·exact .inl ⟨h3,h4⟩
      ·exact .inr (zvv.1 h3)
 case done=>
  rintro D ys W hD hys ⟨ht,U,hU,hUb⟩ hK;have z5:W.cell? ⟨w1.heap.size,0,none⟩=some (.slice (some ⟨gN,0,none⟩) nw nw):=(zvW _ _ _ _ _ _ ((ht.same _ (by omega) (by omega)).trans x5):W.cell? ⟨w1.heap.size,0,none⟩=_)
  gi_wp2
  have hgp:=grownBy_putObj' W D (.deferred none);refine⟨by simp,.inl ⟨_,_,rfl,run_takeDeferred hK,?_⟩⟩;have htf:=ht.grown hgp (fun g e=>.inr (by cases e;exact hD));refine⟨.slice (some ⟨gN,0,none⟩) nw nw,by simp[results,Tryz.results170,go_sem],gN,U,rfl,by omega,⟨(World.putObj_heap_other (by omega)).trans hU.row,hU.lt⟩,fun q=>?_,?_⟩
  ·exact(hUb q).trans ((and_congr (hys q) Iff.rfl).trans and_assoc)
  ·exact⟨htf.os.trans hb0.os,htf.tape.trans hb0.tape,htf.output.trans hb0.output,zvK hb0.size htf.size,fun k hk=>(htf.same k (by omega) (by omega)).trans (hb0.block k hk)⟩
end Go.Proofs.YtdimhpfiieepiaaGreatDoor
