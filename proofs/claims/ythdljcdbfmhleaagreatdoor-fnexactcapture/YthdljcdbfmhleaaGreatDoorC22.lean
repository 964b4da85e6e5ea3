import Derived.Test.YthdljcdbfmhleaaGreatDoorC19
import Derived.Test.YthdljcdbfmhleaaGreatDoorC21
namespace Go.Proofs.YthdljcdbfmhleaaGreatDoor
set_option maxHeartbeats 4000000
set_option maxRecDepth 100000
section
variable {O:Nat -> Prop}{w:World}{r nw bt ga gl gm gv m B n:Nat}{lv sS sP sv fv:Value}{L gx lr mk A:Nat -> Nat}{Ts Lk:Nat -> Nat -> Nat}{es:List (Int×Int)}{f:Nat -> Nat -> Bool}
open Go.RowKit
attribute [local go_sem] Oper.semAt_some
theorem RdS.keepC{w':World}(h:RdS O w r nw bt ga gl lv L gm gv sS sP gx Ts m es)(hc:∀(k:Nat) (cs:Array Value) (t:TypeId),w.heap[k]?=some (.cells cs t (0,0))->w'.heap[k]?=some (.cells cs t (0,0)))(hm:∀(k:Nat) (e:Array MapEntry) (c:Nat),w.heap[k]?=some (.map e c)->w'.heap[k]?=some (.map e c)):RdS O w' r nw bt ga gl lv L gm gv sS sP gx Ts m es:=
 ⟨hc _ _ _ h.box,hm _ _ _ h.nm,hm _ _ _ h.mv,zar h.so fun _ _ e=>hc _ _ _ e,zar h.po fun _ _ e=>hc _ _ _ e,fun i hi=>⟨hc _ _ _ (h.set i hi).row,(h.set i hi).lt⟩,h.dif,h.or,h.om,h.ov,h.os,h.op,h.ox,h.nd⟩
theorem RdS.putM{es':List (Int×Int)}(h:RdS O w r nw bt ga gl lv L gm gv sS sP gx Ts m es):RdS O {w with heap:=w.heap.setIfInBounds gv (.map (moE es') es'.length)} r nw bt ga gl lv L gm gv sS sP gx Ts m es':=by
 have hs:=MapKept.heap_set (o':=.map (moE es') es'.length) h.mv;have hc:∀(k:Nat) (cs:Array Value) (t:TypeId),w.heap[k]?=some (.cells cs t (0,0))->(w.heap.setIfInBounds gv (.map (moE es') es'.length))[k]?=some (.cells cs t (0,0)):=fun k cs t e=>(hs.2 k (fun e2=>by rw[e2,h.mv] at e;cases e)).trans e
 exact⟨hc _ _ _ h.box,(hs.2 gm h.dif).trans h.nm,hs.1,zar h.so fun _ _ e=>hc _ _ _ e,zar h.po fun _ _ e=>hc _ _ _ e,fun i hi=>⟨hc _ _ _ (h.set i hi).row,(h.set i hi).lt⟩,h.dif,h.or,h.om,h.ov,h.os,h.op,h.ox,h.nd⟩
theorem zhO{T U:Nat->Nat}(h:∀x,x<nw->T x=U x){q:Nat}(hq:q<64*nw):zae T q=zae U q:=by
 unfold zae;rw[h (q/64) (by omega)]
theorem ziw(C:StC B w n nw bt ga gl lv sv fv lr mk Lk A L f)(h:RdS O w r nw bt ga gl lv L gm gv sS sP gx Ts m es)(hM:MvOk nw f Lk A Ts m es)(hS:ziW n nw Ts m){i c:Nat}{b:Bool}(hi:i<m)(hc:c<256)(hm:m<=100000000)(hk:zbF i c b∉za4 es)
  {w5:World} (hos:w5.os=w.os) (htp:w5.tape=w.tape) (hop:w5.output=w.output) (hsz:w.heap.size<=w5.heap.size) (hsame:∀k,k<w.heap.size->w5.heap[k]?=w.heap[k]?) {g4:Nat} {U4:Nat->Nat} (hg4:w.heap.size<=g4) (hp:zal w5 nw g4 U4) (hU:∀q,zae U4 q=true->q<n) (hst:zfg nw f Lk A (Ts i) c b U4):
  Calls Tryz.prog 113 #[.pointer (some ⟨r,0,none⟩),.slice (some ⟨g4,0,none⟩) nw nw] w5 fun e w6=>∃(t:Nat) (W7:World),e=.returned (.int .i64 t)/\zan O w5 w6/\w6.cell? ⟨r,7,none⟩=some (.map (some gv))/\w6.cell? ⟨r,0,none⟩=some (.pointer (some ⟨bt,0,none⟩))/\(Instr.mapUpdate 180 (.map (some gv)) (.int .i64 (zbF i c b)) (.int .i64 t)).run Tryz.prog w6=.ok () W7/\(∀k,k≠gv->W7.heap[k]?=w6.heap[k]?)/\
   Hid (∀D,w.heap.size<=D->W7.heap[D]?=some (.deferred (some []))->zk2 O w n r nw bt ga gl lv f Lk A L gm gv gx Ts m i c b (.returned (.int .i64 t)) (W7.putObj D (.deferred none))):=by
 have h5:=h.keep (w':=w5) fun k _ hl=>hsame k hl
 have hL5:zal w5 nw gl L:=⟨(hsame gl (zsc C.pl.2 C.le)).trans C.pl.1.row,C.pl.1.lt⟩;refine(zde h5 g4 U4 hp hL5 C.nwl hm).mono ?_;rintro e w6 ⟨t,m',sS',sP',gx',Ts',rfl,hR,ht,hm1,hm2,hold,heq,hnew,tc⟩;have hput:=zqN w6 Tryz.underlying180 Tryz.underlying3 gv es (zbF i c b) (t:Int) hk hR.mv;have hset:=MapKept.heap_set (o':=.map (moE (es++[(zbF i c b,(t:Int))])) (es++[(zbF i c b,(t:Int))]).length) hR.mv;refine⟨t,_,rfl,tc,(zaM hR.box).2.2.2.2.2.2.2,(zaM hR.box).1,hput,fun k hne=>hset.2 k hne,fun D hD hK=>?_⟩;have hR7:=hR.putM (es':=es++[(zbF i c b,(t:Int))]);obtain⟨W7,hW7⟩:∃W7,({w6 with heap:=w6.heap.setIfInBounds gv (.map (moE (es++[(zbF i c b,(t:Int))])) (es++[(zbF i c b,(t:Int))]).length)}:World)=W7:=⟨_,rfl⟩;have e7:∀k,k≠gv->W7.heap[k]?=w6.heap[k]?:=fun k hne=>by rw[<-hW7];exact hset.2 k hne
 have s7:W7.heap.size=w6.heap.size:=by rw[<-hW7];simp
 have o7:W7.os=w6.os/\W7.tape=w6.tape/\W7.output=w6.output:=by rw[<-hW7];exact⟨rfl,rfl,rfl⟩
 rw[hW7] at hR7 hK ⊢;have hlt6:=tc.size;have hR8:=hR7.keepC (w':=W7.putObj D (.deferred none)) (fun k cs t e=>(World.putObj_heap_other (fun e2=>by subst e2;rw[hK] at e;cases e)).trans e) (fun k es c e=>(World.putObj_heap_other (fun e2=>by subst e2;rw[hK] at e;cases e)).trans e);have hTi:Ts' i=Ts i:=(hold i hi).2;have hst':zfg nw f Lk A (Ts i) c b (Ts' t):=fun q hq=>by rw[zhO heq hq];exact hst q hq
 refine⟨t,m',sS',sP',gx',Ts',es++[(zbF i c b,(t:Int))],rfl,hR8.lt.mono fun k ⟨ho,hl⟩=>?_,ht,hm1,hm2,hold,hst',((hM.more hm1 fun j hj=>(hold j hj).2).put (by omega) hc ht hk (by rw[hTi];exact hst')),fun j q hj hq hb=>?_,?_⟩
 ·rcases ho with ho|rfl|ho
  ·exact .inl ho
  ·exact .inr ⟨hg4,hl⟩
  ·exact .inr ⟨by omega,hl⟩
 ·by_cases hjm:j<m
  ·rw[(hold j hjm).2] at hb;exact hS j q hjm hq hb
  ·have:=hnew j (by omega) hj;subst this;rw[zhO heq hq] at hb;exact hU q hb
 ·refine⟨(show W7.os=_ from o7.1).trans (tc.os.trans hos),(show W7.tape=_ from o7.2.1).trans (tc.tape.trans htp),(show W7.output=_ from o7.2.2).trans (tc.output.trans hop),by simp;omega,fun k hk hn=>?_⟩;rw[World.putObj_heap_other (by omega),e7 k (fun e=>hn (by rw[e];exact h.ov)),tc.same k (by omega) hn,hsame k hk]
theorem zo9(C:StC B w n nw bt ga gl lv sv fv lr mk Lk A L f)(hO:∀k,O k->B<=k/\k<w.heap.size)(h:RdS O w r nw bt ga gl lv L gm gv sS sP gx Ts m es)(hM:MvOk nw f Lk A Ts m es)(hS:ziW n nw Ts m)(i c:Nat)(b:Bool)(hi:i<m)(hc:c<256)(hm:m<=100000000)(hk:zbF i c b∉za4 es):
  Calls Tryz.prog 92 #[.pointer (some ⟨r,0,none⟩),.int .i64 i,.int .u8 c,.bool b] w fun e w'=>zk2 O w n r nw bt ga gl lv f Lk A L gm gv gx Ts m i c b e w':=by
 obtain⟨W1,hW1⟩:∃W1,w.alloc (.cells #[.pointer (some ⟨r,0,none⟩)] 127)=W1:=⟨_,rfl⟩;have hb1:Below w.heap.size w W1:=by rw[<-hW1];exact(Below.refl _ _).alloc (zsa _) _
 have k0:W1.heap[w.heap.size]?=some (.cells #[.pointer (some ⟨r,0,none⟩)] 127 (0,0)):=by rw[<-hW1];exact zsp _ _
 have c0:W1.cell? ⟨w.heap.size,0,none⟩=some (.pointer (some ⟨r,0,none⟩)):=(zsm _ _ _ _ _ _ k0:_=_);have h1:=h.keep (w':=W1) fun k _ hl=>hb1.block k hl
 obtain⟨b0,b1,b2,b3,b4,b5,b6,b7⟩:=zaM h1.box;have hl:=znf W1 Tryz.underlying180 Tryz.underlying3 (Tryz.zeroIntR W1) gv es (zbF i c b) h1.mv;have hdk:decide (zbF i c b∈za4 es)=false:=by simp[hk]
 rw[hdk,zng hk] at hl;have hno:=zdQ nw bt sv fv W1 ((hb1.block bt (zsc C.btB C.le)).trans C.box) C.nwl;have hmc:zbF i c b=2*(256*(i:Int)+(c:Int))+(if b=true then 1 else 0):=rfl;obtain⟨mc,hmcv⟩:∃mc,zbF i c b=mc:=⟨_,rfl⟩;rw[hmc] at hl;obtain⟨gS,cS,cur,rfl,hgS,hcur⟩:=zbc h.so (by omega);have cS1:w.cell? ⟨gS,i,none⟩=some (.slice (some ⟨gx i,0,none⟩) nw nw):=by
  rw[zsm _ _ _ _ _ _ hgS,hcur i hi];simp[slcL,hi]
 have hgSl:gS<w.heap.size:=(zrc.1 hgS).1;have hrl:r<w.heap.size:=(zrc.1 h.box).1;have hi0:(0:Int)<=(i:Int):=by omega
 have hi1:(i:Int)<(m:Int):=by omega
 have HW:∀W,Below W1.heap.size W1 W->W.cell? ⟨w.heap.size,0,none⟩=some (.pointer (some ⟨r,0,none⟩))/\(W.cell? ⟨r,0,none⟩=some (.pointer (some ⟨bt,0,none⟩))/\W.cell? ⟨r,1,none⟩=some lv/\W.cell? ⟨r,2,none⟩=some (.slice (some ⟨ga,0,none⟩) nw nw)/\W.cell? ⟨r,5,none⟩=some (.slice (some ⟨gS,0,none⟩) m cS)/\W.cell? ⟨r,7,none⟩=some (.map (some gv)))/\W.cell? ⟨gS,i,none⟩=some (.slice (some ⟨gx i,0,none⟩) nw nw):=fun W hb=>by
  have hs1:=hb1.size;have hc:=fun(d o:Nat) (hl:d<W1.heap.size)=>hb.cell (p:=⟨d,o,none⟩) hl
  have hw1:w.heap.size<W1.heap.size:=(zrc.1 k0).1;exact⟨(hc _ _ hw1).trans c0,⟨(hc _ _ (by omega)).trans b0,(hc _ _ (by omega)).trans b1,(hc _ _ (by omega)).trans b2,(hc _ _ (by omega)).trans b5,(hc _ _ (by omega)).trans b7⟩,(hc _ _ (by omega)).trans ((hb1.cell (p:=⟨gS,i,none⟩) hgSl).trans cS1)⟩
 refine(callsIn_wide (n:=5)).1 ?_;refine callsIn_of_wp_marks Tryz.func92 rfl trivial ?_ rfl;simp only[Tryz.ntmps92,zr4,zrL,zrN,Nat.reduceAdd,Nat.reduceSub,zrd,zre,zr1,zrn,zrZ,zro];have Hl:Hid _:=hl;cases b
 ·simp only[if_false,Bool.false_eq_true,Int.add_zero] at hl
  gi_wp2_with (refine⟨trivial,?_⟩;gi_at_call 107;refine(callsIn_wide.2 hno).mono ?_;rintro e w2 ⟨rfl,hz2,hg2⟩;have hb2:Below W1.heap.size W1 w2:=⟨hg2.os,hg2.tape,hg2.output,hg2.size,fun k hk=>hg2.block k hk (by simp)⟩;obtain⟨W0,hW0⟩:∃W0,w2.alloc (.cells #[.slice (some ⟨W1.heap.size,0,none⟩) nw nw] 129)=W0:=⟨_,rfl⟩;have hb0:Below W1.heap.size W1 W0:=(by rw[<-hW0];exact hb2.alloc hb2.size _);obtain⟨z0,⟨y0,y1,y2,y5,y7⟩,x0⟩:=HW W0 hb0)
  have x5:W0.heap[w2.heap.size]?=some (.cells #[.slice (some ⟨W1.heap.size,0,none⟩) nw nw] 129 (0,0)):=by rw[<-hW0];exact zsp _ _
  have yN:zal W0 nw W1.heap.size zaQ:=by rw[<-hW0];exact⟨zah hz2.row,hz2.lt⟩
  have hzl:=hz2.glt;have hw1:w.heap.size<W1.heap.size:=(zrc.1 k0).1;have hsz:w2.heap.size<W0.heap.size:=(zrc.1 x5).1;obtain⟨gN,hgN⟩:∃gN,W1.heap.size=gN:=⟨_,rfl⟩;have same0:∀k,k<w.heap.size->W0.heap[k]?=w.heap[k]?:=fun k hk=>(hb0.block k (by omega)).trans (hb1.block k hk)
  rw[hgN] at x5 yN hzl hw1 ⊢;have C0:=C.keep (w':=W0) (fun k hk=>same0 k (zsc hk C.le)) (by have:=C.le;omega);have y1s:zal W0 nw (gx i) (Ts i):=⟨(same0 _ (h.set i hi).glt).trans (h.set i hi).row,(h.set i hi).lt⟩;have hgl:=(h.set i hi).glt;have HX:Hid (hl=hl):=rfl;clear HX hl Hl hno hb2 hz2 hg2 hW0
  rename_i K hKc
  refine zbS (by omega) (gf:=108) (fb:=#[.slice (some ⟨gx i,0,none⟩) nw nw]) (lb:=#[]) rfl (enters_of Tryz.func108 (by kernel_rfl) rfl)
   (T:=[0,gx i]) (by intro k hk;simp at hk;have:=C.pos;have:=C.le;omega)
   (zbY 4 nw (gx i) nw (Ts i) (by omega) C.nwl W0 y1s C0.bru) (fun _=>rfl)
   (fun pre W=>zan (fun k=>k=gN) W0 W/\∃U,zal W nw gN U/\∀q,zae U q=true↔∃p,p∈zbP pre/\zae (Lk p) q=true)
   (fun _ _ _=>False)
   (fun s A B hs ht=>⟨hs.1.turn ht,by obtain⟨U,h1,h2⟩:=hs.2;exact⟨U,⟨ht.same _ _ h1.row (.inr rfl),h1.lt⟩,h2⟩⟩)
   (fun c s A B hs ht=>hs)
   ⟨zan.refl _ _,zaQ,yN,fun q=>by rw[zbL];simp[zbP]⟩
   (fun x=>{tmps:=#[.pointer (some ⟨r,0,none⟩),.int .i64 i,.int .u8 c,.bool false,.pointer (some ⟨w.heap.size,0,none⟩),undef,undef,undef,.int .i64 0,.int .i64 (2*(256*(i:Int)+(c:Int))),.int .i64 0,.bool false,.pointer (some ⟨w2.heap.size,0,none⟩),.int .i64 (x.1:Int),.int .i64 i,.int .i64 (256*(i:Int)),.int .u8 c,.int .i64 c,.int .i64 (256*(i:Int)+(c:Int)),.int .i64 (2*(256*(i:Int)+(c:Int))),.bool false,undef,undef,.tuple #[.int .i64 0,.bool false],.pointer (some ⟨r,0,none⟩),.pointer (some ⟨r,0,none⟩),.pointer (some ⟨r,7,none⟩),.map (some gv),.int .i64 (2*(256*(i:Int)+(c:Int))),.tuple #[.int .i64 0,.bool false],.int .i64 0,.bool false,.bool false,undef,.pointer (some ⟨r,0,none⟩),.pointer (some ⟨r,0,none⟩),.pointer (some ⟨r,0,none⟩),.pointer (some ⟨bt,0,none⟩),.slice (some ⟨gN,0,none⟩) nw nw,.pointer (some ⟨r,0,none⟩),.pointer (some ⟨r,0,none⟩),.pointer (some ⟨r,5,none⟩),.slice (some ⟨gS,0,none⟩) m cS,.int .i64 i,.pointer (some ⟨gS,i,none⟩),.slice (some ⟨gx i,0,none⟩) nw nw,.func (.func 108) #[.slice (some ⟨gx i,0,none⟩) nw nw] #[],.int .i64 (x.1:Int),undef,undef,undef,undef,undef,undef,undef,undef,undef,undef,undef,undef,undef,undef,undef,undef,undef,undef,undef,undef,undef,undef,undef,undef,undef,undef,undef,undef,undef,undef,undef,undef],defers:=[]})
   ?assign ?body ?done ?stop
  case assign=>
   intro l x W K hK
   gi_wp2
   exact hK
  case stop=>
   rintro D c pre W hD _ hf;exact hf.elim
  case body=>
   rintro l pre ⟨x,hx⟩ W hl ⟨ht,U,hU,hUb⟩ hlen;have hxn:=hS i x hi hx.1 hx.2;obtain⟨gf,cf,rfl,hgf,hfv⟩:=C0.lvs (by omega);have hCle:=C.le;have hlr:=(C0.lrs x hxn).2;have cell:∀d o,d<W0.heap.size->d≠gN->W.cell? ⟨d,o,none⟩=W0.cell? ⟨d,o,none⟩:=fun d o h1 h2=>World.cell?_of_block (ht.same d h1 h2)
   have z3:=(cell w.heap.size 0 (by omega) (by omega)).trans z0;have z5:W.cell? ⟨w2.heap.size,0,none⟩=some (.slice (some ⟨gN,0,none⟩) nw nw):=(cell w2.heap.size 0 hsz (by omega)).trans (zsm _ _ _ _ _ _ x5:_=_);have zb:=(cell r 1 (by omega) (by omega)).trans y1;have zf:=(cell gf x (by omega) (by omega)).trans (hfv x hxn);have hfr:=((C0.lrs x hxn).1).touch ht (by omega);have hj:=zcv nw gN (lr x) nw nw U (Lk x) W.drew ⟨hU.row,hU.lt⟩ ⟨hfr.row,hfr.lt⟩ (by omega) C.nwl;have hx0:(0:Int)<=(x:Int):=by omega
   have hx1:(x:Int)<(n:Int):=by omega
   have hmix:Tryz.prog.follows .mixedOrders=true:=by kernel_rfl
   dsimp only
   gi_wp2
   gi_region_with_o (refine⟨trivial,?_⟩;gi_at_call 112;refine(CallsIn.inRound l (callsIn_wide.2 hj)).mono ?_;rintro e w' ⟨rfl,hp',hg'⟩)
   all_goals
    gi_wp2
    refine⟨KeepsFrom.of_grownBy (W:=W) (row:=some gN) ⟨hg'.os,hg'.tape,hg'.output,hg'.size,hg'.block⟩ (fun j e=>by cases e;omega),fun k hk=>?_,ht.grown (A:=W) (o:=some gN) ⟨hg'.os,hg'.tape,hg'.output,hg'.size,hg'.block⟩ (fun g e=>by cases e;exact .inl rfl),orT U (Lk x),hp',fun q=>?_⟩
    ·refine hg'.block k ?_ (fun e=>?_)
     ·have:=ht.size;simp at hk;show k<W.heap.size;omega
     ·have e':k=gN:=by simpa using e
      simp at hk;omega
    ·rw[zeE,zbB,zrg,hUb];constructor
     ·rintro (⟨p,h3,h4⟩|h3)
      ·exact⟨p,zrR.2 (.inl h3),h4⟩
      ·exact⟨x,by simp,h3⟩
     ·rintro ⟨p,h3,h4⟩;rcases zrR.1 h3 with h3|h3
      ·exact .inl ⟨p,h3,h4⟩
      ·exact .inr (by rw[zrY.1 h3] at h4;exact h4)
  case done=>
   rintro D ys W hD hys ⟨ht,U,hU,hUb⟩ hK;have hCle:=C.le;have cell:∀d o,d<W0.heap.size->d≠gN->W.cell? ⟨d,o,none⟩=W0.cell? ⟨d,o,none⟩:=fun d o h1 h2=>World.cell?_of_block (ht.same d h1 h2)
   have z3:=(cell w.heap.size 0 (by omega) (by omega)).trans z0;have z5:W.cell? ⟨w2.heap.size,0,none⟩=some (.slice (some ⟨gN,0,none⟩) nw nw):=(cell w2.heap.size 0 hsz (by omega)).trans (zsm _ _ _ _ _ _ x5:_=_);have zr0:=(cell r 0 (by omega) (by omega)).trans y0;have zr2:=(cell r 2 (by omega) (by omega)).trans y2;have sameW:∀k,k<w.heap.size->W.heap[k]?=w.heap[k]?:=fun k hk=>(ht.same k (by omega) (by omega)).trans (same0 k hk)
   have hsW:W0.heap.size<=W.heap.size:=ht.size;have hUq:∀q,zae U q=true↔∃p,p<64*nw/\zae (Ts i) p=true/\zae (Lk p) q=true:=fun q=>(hUb q).trans ⟨fun⟨p,h3,h4⟩=>⟨p,((hys p).1 h3).1,((hys p).1 h3).2,h4⟩,fun⟨p,h3,h4,h5⟩=>⟨p,(hys p).2 ⟨h3,h4⟩,h5⟩⟩
   have hUn:∀q,q<64*nw->zae U q=true->q<n:=fun q hq h3=>by
    obtain⟨p,h4,h5,h6⟩:=(hUq q).1 h3;exact C.lb p q (hS i p hi h4 h5) hq h6
   have CW:=C.keep (w':=W) (fun k hk=>sameW k (zsc hk C.le)) (by omega);have hmix:Tryz.prog.follows .mixedOrders=true:=by kernel_rfl
   have hcode:zbF i c false=2*(256*(i:Int)+(c:Int)):=by unfold zbF;simp
   have gvl:gv<w.heap.size:=(hO gv h.ov).2;obtain⟨X,hX⟩:∃X,W.drew=X:=⟨_,rfl⟩;have Xos:X.os=w.os:=by rw[<-hX];exact(show W.os=_ from ht.os).trans (hb0.os.trans hb1.os)
   have Xtp:X.tape=w.tape:=by rw[<-hX];exact(show W.tape=_ from ht.tape).trans (hb0.tape.trans hb1.tape)
   have Xop:X.output=w.output:=by rw[<-hX];exact(show W.output=_ from ht.output).trans (hb0.output.trans hb1.output)
   have Xsz:w.heap.size<=X.heap.size:=by rw[<-hX];show _<=W.heap.size;omega
   have Xsame:∀k,k<w.heap.size->X.heap[k]?=w.heap[k]?:=by rw[<-hX];exact sameW
   have Xn:∀q,q<64*nw->zae U q=true->q<n:=hUn;have Xq:∀q,q<64*nw->(zae U q=true↔(∃p,p<64*nw/\zae (Ts i) p=true/\zae (Lk p) q=true)\/(false=true/\zae A q=true)):=fun q _=>(hUq q).trans ⟨.inl,fun h=>h.elim id fun h=>by cases h.1⟩
   have htk:=ziK n nw bt gN nw c sv fv mk f U W.drew CW.box (fun hn=>by obtain⟨gs,cs,e1,e2,e3⟩:=CW.svs hn;exact⟨gs,cs,e1,by show gs<W.heap.size;omega,e3⟩) (fun p hp=>(CW.mks p hp).1) ⟨hU.row,hU.lt⟩ hUn CW.nwl hc CW.bru (by show 0<W.heap.size;omega);rw[hX] at htk;have hnumr:=fun(w5:World) (g4:Nat) (U4:Nat->Nat) (hb:Below X.heap.size X w5) (hg4:X.heap.size<=g4) (hp:zal w5 nw g4 U4) (hbits:∀q,zae U4 q=true↔q<64*nw/\zae U q=true/\f q c=true)=>ziw C h hM hS (b:=false) hi hc hm hk (w5:=w5) (hb.os.trans Xos) (hb.tape.trans Xtp) (hb.output.trans Xop) (zsb Xsz hb.size) (fun k hk=>(hb.block k (zsc hk Xsz)).trans (Xsame k hk)) (g4:=g4) (U4:=U4) (zsb Xsz hg4) hp (fun q hq=>Xn q ((hbits q).1 hq).1 ((hbits q).1 hq).2.1) (fun q hq=>by
    rw[hbits q];constructor
    ·rintro ⟨_,h3,h4⟩;exact⟨h4,(Xq q hq).1 h3⟩
    ·rintro ⟨h3,h4⟩;exact⟨hq,(Xq q hq).2 h4,h3⟩)
   simp only[hcode] at hnumr;have Hno:Hid (∀k,O k->k<w.heap.size):=fun k hk=>(hO k hk).2
   have Hh:Hid (hnumr=hnumr):=rfl;clear Hh h hM hS hO C C0 CW HW hUb hys hU h1 cS1 hgS hcur b0 b1 b2 b3 b4 b5 b6 b7 c0 x0 y0 y1 y2 y5 y7 z0 yN y1s hmc hdk hcode;have X3:X.cell? ⟨w.heap.size,0,none⟩=some (.pointer (some ⟨r,0,none⟩)):=by rw[<-hX];exact z3
   have X5:X.cell? ⟨w2.heap.size,0,none⟩=some (.slice (some ⟨gN,0,none⟩) nw nw):=by rw[<-hX];exact z5
   have X0:X.cell? ⟨r,0,none⟩=some (.pointer (some ⟨bt,0,none⟩)):=by rw[<-hX];exact zr0
   have XD:X.heap[D]?=some (.deferred (some [])):=by rw[<-hX];exact hK
   have XDl:D<X.heap.size:=(zrc.1 XD).1;have Xwl:w.heap.size<X.heap.size:=by rw[<-hX];show _<W.heap.size;omega
   have Xw2:w2.heap.size<X.heap.size:=by rw[<-hX];show _<W.heap.size;omega
   have Xr:r<X.heap.size:=by omega
   have hw2g:w.heap.size<=w2.heap.size:=by omega
   have hDw:w.heap.size<=D:=by omega
   have HXD:Hid _:=XD;refine hKc _ _ (wpIn_wide.2 ?_);dsimp only;clear hKc XD hK ht sameW hUq hUn Xos Xtp Xop Xsame Xn Xq cell same0
   go_wp2_with fail
   go_region_held3 (fun w'=>w'.cell? ⟨w.heap.size,0,none⟩=some (.pointer (some ⟨r,0,none⟩))/\w'.cell? ⟨w2.heap.size,0,none⟩=some (.slice (some ⟨gN,0,none⟩) nw nw)/\w'.cell? ⟨r,0,none⟩=some (.pointer (some ⟨bt,0,none⟩))) ((first|exact⟨X3,X5,X0⟩|exact⟨z3,z5,zr0⟩|exact⟨q3,q5,q0⟩|exact⟨p3,p5,p0⟩|go_keep)) ((first|(go_at_call 114;refine htk.mono ?_;rintro e w5 ⟨g4,U4,rfl,hg4,hp4,hb4,hbel5⟩;have q3:=(hbel5.cell (p:=⟨w.heap.size,0,none⟩) Xwl).trans X3;have q5:=(hbel5.cell (p:=⟨w2.heap.size,0,none⟩) Xw2).trans X5;have q0:=(hbel5.cell (p:=⟨r,0,none⟩) Xr).trans X0)|(go_at_call 113;refine(hnumr w5 g4 U4 hbel5 hg4 hp4 hb4).mono ?_;rintro e w6 ⟨t,W7,rfl,tc6,zm6,p0,hput,h7o,HR⟩;have p3:w6.cell? ⟨w.heap.size,0,none⟩=some (.pointer (some ⟨r,0,none⟩)):=(World.cell?_of_block (tc6.same w.heap.size (by have:=hbel5.size;omega) (fun e=>by have:=Hno.out _ e;omega))).trans q3;have p5:w6.cell? ⟨w2.heap.size,0,none⟩=some (.slice (some ⟨gN,0,none⟩) nw nw):=(World.cell?_of_block (tc6.same w2.heap.size (by have:=hbel5.size;omega) (fun e=>by have:=Hno.out _ e;omega))).trans q5)))
   all_goals
    have hK7:W7.heap[D]?=some (.deferred (some [])):=by
     rw[h7o D (by omega),tc6.same D (by have:=hbel5.size;omega) (fun e=>by have:=Hno.out _ e;omega),hbel5.block D XDl];exact HXD.out
    have HRD:=HR.out D hDw hK7;have Hfin:Hid _:=HRD;clear HRD HR hnumr htk;go_wp2;refine⟨by simp,.inl ⟨_,_,rfl,run_takeDeferred hK7,?_⟩⟩;exact⟨.int .i64 t,by simp[results,Tryz.results92,go_sem],Hfin.out⟩
 ·simp only[if_true] at hl
  gi_wp2_with (refine⟨trivial,?_⟩;gi_at_call 107;refine(callsIn_wide.2 hno).mono ?_;rintro e w2 ⟨rfl,hz2,hg2⟩;have hb2:Below W1.heap.size W1 w2:=⟨hg2.os,hg2.tape,hg2.output,hg2.size,fun k hk=>hg2.block k hk (by simp)⟩;obtain⟨W0,hW0⟩:∃W0,w2.alloc (.cells #[.slice (some ⟨W1.heap.size,0,none⟩) nw nw] 129)=W0:=⟨_,rfl⟩;have hb0:Below W1.heap.size W1 W0:=(by rw[<-hW0];exact hb2.alloc hb2.size _);obtain⟨z0,⟨y0,y1,y2,y5,y7⟩,x0⟩:=HW W0 hb0)
  have x5:W0.heap[w2.heap.size]?=some (.cells #[.slice (some ⟨W1.heap.size,0,none⟩) nw nw] 129 (0,0)):=by rw[<-hW0];exact zsp _ _
  have yN:zal W0 nw W1.heap.size zaQ:=by rw[<-hW0];exact⟨zah hz2.row,hz2.lt⟩
  have hzl:=hz2.glt;have hw1:w.heap.size<W1.heap.size:=(zrc.1 k0).1;have hsz:w2.heap.size<W0.heap.size:=(zrc.1 x5).1;obtain⟨gN,hgN⟩:∃gN,W1.heap.size=gN:=⟨_,rfl⟩;have same0:∀k,k<w.heap.size->W0.heap[k]?=w.heap[k]?:=fun k hk=>(hb0.block k (by omega)).trans (hb1.block k hk)
  rw[hgN] at x5 yN hzl hw1 ⊢;have C0:=C.keep (w':=W0) (fun k hk=>same0 k (zsc hk C.le)) (by have:=C.le;omega);have y1s:zal W0 nw (gx i) (Ts i):=⟨(same0 _ (h.set i hi).glt).trans (h.set i hi).row,(h.set i hi).lt⟩;have hgl:=(h.set i hi).glt;have HX:Hid (hl=hl):=rfl;clear HX hl Hl hno hb2 hz2 hg2 hW0
  rename_i K hKc
  refine zbS (by omega) (gf:=108) (fb:=#[.slice (some ⟨gx i,0,none⟩) nw nw]) (lb:=#[]) rfl (enters_of Tryz.func108 (by kernel_rfl) rfl)
   (T:=[0,gx i]) (by intro k hk;simp at hk;have:=C.pos;have:=C.le;omega)
   (zbY 4 nw (gx i) nw (Ts i) (by omega) C.nwl W0 y1s C0.bru) (fun _=>rfl)
   (fun pre W=>zan (fun k=>k=gN) W0 W/\∃U,zal W nw gN U/\∀q,zae U q=true↔∃p,p∈zbP pre/\zae (Lk p) q=true)
   (fun _ _ _=>False)
   (fun s A B hs ht=>⟨hs.1.turn ht,by obtain⟨U,h1,h2⟩:=hs.2;exact⟨U,⟨ht.same _ _ h1.row (.inr rfl),h1.lt⟩,h2⟩⟩)
   (fun c s A B hs ht=>hs)
   ⟨zan.refl _ _,zaQ,yN,fun q=>by rw[zbL];simp[zbP]⟩
   (fun x=>{tmps:=#[.pointer (some ⟨r,0,none⟩),.int .i64 i,.int .u8 c,.bool true,.pointer (some ⟨w.heap.size,0,none⟩),undef,undef,undef,.int .i64 0,.int .i64 (2*(256*(i:Int)+(c:Int))+1),.int .i64 0,.bool false,.pointer (some ⟨w2.heap.size,0,none⟩),.int .i64 (x.1:Int),.int .i64 i,.int .i64 (256*(i:Int)),.int .u8 c,.int .i64 c,.int .i64 (256*(i:Int)+(c:Int)),.int .i64 (2*(256*(i:Int)+(c:Int))),.bool true,.int .i64 (2*(256*(i:Int)+(c:Int))),.int .i64 (2*(256*(i:Int)+(c:Int))+1),.tuple #[.int .i64 0,.bool false],.pointer (some ⟨r,0,none⟩),.pointer (some ⟨r,0,none⟩),.pointer (some ⟨r,7,none⟩),.map (some gv),.int .i64 (2*(256*(i:Int)+(c:Int))+1),.tuple #[.int .i64 0,.bool false],.int .i64 0,.bool false,.bool false,undef,.pointer (some ⟨r,0,none⟩),.pointer (some ⟨r,0,none⟩),.pointer (some ⟨r,0,none⟩),.pointer (some ⟨bt,0,none⟩),.slice (some ⟨gN,0,none⟩) nw nw,.pointer (some ⟨r,0,none⟩),.pointer (some ⟨r,0,none⟩),.pointer (some ⟨r,5,none⟩),.slice (some ⟨gS,0,none⟩) m cS,.int .i64 i,.pointer (some ⟨gS,i,none⟩),.slice (some ⟨gx i,0,none⟩) nw nw,.func (.func 108) #[.slice (some ⟨gx i,0,none⟩) nw nw] #[],.int .i64 (x.1:Int),undef,undef,undef,undef,undef,undef,undef,undef,undef,undef,undef,undef,undef,undef,undef,undef,undef,undef,undef,undef,undef,undef,undef,undef,undef,undef,undef,undef,undef,undef,undef,undef],defers:=[]})
   ?assign ?body ?done ?stop
  case assign=>
   intro l x W K hK
   gi_wp2
   exact hK
  case stop=>
   rintro D c pre W hD _ hf;exact hf.elim
  case body=>
   rintro l pre ⟨x,hx⟩ W hl ⟨ht,U,hU,hUb⟩ hlen;have hxn:=hS i x hi hx.1 hx.2;obtain⟨gf,cf,rfl,hgf,hfv⟩:=C0.lvs (by omega);have hCle:=C.le;have hlr:=(C0.lrs x hxn).2;have cell:∀d o,d<W0.heap.size->d≠gN->W.cell? ⟨d,o,none⟩=W0.cell? ⟨d,o,none⟩:=fun d o h1 h2=>World.cell?_of_block (ht.same d h1 h2)
   have z3:=(cell w.heap.size 0 (by omega) (by omega)).trans z0;have z5:W.cell? ⟨w2.heap.size,0,none⟩=some (.slice (some ⟨gN,0,none⟩) nw nw):=(cell w2.heap.size 0 hsz (by omega)).trans (zsm _ _ _ _ _ _ x5:_=_);have zb:=(cell r 1 (by omega) (by omega)).trans y1;have zf:=(cell gf x (by omega) (by omega)).trans (hfv x hxn);have hfr:=((C0.lrs x hxn).1).touch ht (by omega);have hj:=zcv nw gN (lr x) nw nw U (Lk x) W.drew ⟨hU.row,hU.lt⟩ ⟨hfr.row,hfr.lt⟩ (by omega) C.nwl;have hx0:(0:Int)<=(x:Int):=by omega
   have hx1:(x:Int)<(n:Int):=by omega
   have hmix:Tryz.prog.follows .mixedOrders=true:=by kernel_rfl
   dsimp only
   gi_wp2
   gi_region_with_o (refine⟨trivial,?_⟩;gi_at_call 112;refine(CallsIn.inRound l (callsIn_wide.2 hj)).mono ?_;rintro e w' ⟨rfl,hp',hg'⟩)
   all_goals
    gi_wp2
    refine⟨KeepsFrom.of_grownBy (W:=W) (row:=some gN) ⟨hg'.os,hg'.tape,hg'.output,hg'.size,hg'.block⟩ (fun j e=>by cases e;omega),fun k hk=>?_,ht.grown (A:=W) (o:=some gN) ⟨hg'.os,hg'.tape,hg'.output,hg'.size,hg'.block⟩ (fun g e=>by cases e;exact .inl rfl),orT U (Lk x),hp',fun q=>?_⟩
    ·refine hg'.block k ?_ (fun e=>?_)
     ·have:=ht.size;simp at hk;show k<W.heap.size;omega
     ·have e':k=gN:=by simpa using e
      simp at hk;omega
    ·rw[zeE,zbB,zrg,hUb];constructor
     ·rintro (⟨p,h3,h4⟩|h3)
      ·exact⟨p,zrR.2 (.inl h3),h4⟩
      ·exact⟨x,by simp,h3⟩
     ·rintro ⟨p,h3,h4⟩;rcases zrR.1 h3 with h3|h3
      ·exact .inl ⟨p,h3,h4⟩
      ·exact .inr (by rw[zrY.1 h3] at h4;exact h4)
  case done=>
   rintro D ys W hD hys ⟨ht,U,hU,hUb⟩ hK;have hCle:=C.le;have cell:∀d o,d<W0.heap.size->d≠gN->W.cell? ⟨d,o,none⟩=W0.cell? ⟨d,o,none⟩:=fun d o h1 h2=>World.cell?_of_block (ht.same d h1 h2)
   have z3:=(cell w.heap.size 0 (by omega) (by omega)).trans z0;have z5:W.cell? ⟨w2.heap.size,0,none⟩=some (.slice (some ⟨gN,0,none⟩) nw nw):=(cell w2.heap.size 0 hsz (by omega)).trans (zsm _ _ _ _ _ _ x5:_=_);have zr0:=(cell r 0 (by omega) (by omega)).trans y0;have zr2:=(cell r 2 (by omega) (by omega)).trans y2;have sameW:∀k,k<w.heap.size->W.heap[k]?=w.heap[k]?:=fun k hk=>(ht.same k (by omega) (by omega)).trans (same0 k hk)
   have hsW:W0.heap.size<=W.heap.size:=ht.size;have hUq:∀q,zae U q=true↔∃p,p<64*nw/\zae (Ts i) p=true/\zae (Lk p) q=true:=fun q=>(hUb q).trans ⟨fun⟨p,h3,h4⟩=>⟨p,((hys p).1 h3).1,((hys p).1 h3).2,h4⟩,fun⟨p,h3,h4,h5⟩=>⟨p,(hys p).2 ⟨h3,h4⟩,h5⟩⟩
   have hUn:∀q,q<64*nw->zae U q=true->q<n:=fun q hq h3=>by
    obtain⟨p,h4,h5,h6⟩:=(hUq q).1 h3;exact C.lb p q (hS i p hi h4 h5) hq h6
   have CW:=C.keep (w':=W) (fun k hk=>sameW k (zsc hk C.le)) (by omega);have hmix:Tryz.prog.follows .mixedOrders=true:=by kernel_rfl
   have hcode:zbF i c true=2*(256*(i:Int)+(c:Int))+1:=by unfold zbF;simp
   have gvl:gv<w.heap.size:=(hO gv h.ov).2;have hj:=zcv nw gN ga nw nw U A W.drew ⟨hU.row,hU.lt⟩ ⟨CW.pa.1.row,CW.pa.1.lt⟩ (by have:=C.pa.2;omega) C.nwl;have hgNW:gN<W.heap.size:=hU.glt;refine hKc _ _ (wpIn_wide.2 ?_);dsimp only;have Hht:Hid _:=ht;have HsW:Hid _:=sameW;have HhK:Hid _:=hK;clear ht sameW hK hKc cell
   go_wp2_with fail
   go_region_held3 (fun w'=>w'.cell? ⟨w.heap.size,0,none⟩=some (.pointer (some ⟨r,0,none⟩))/\w'.cell? ⟨w2.heap.size,0,none⟩=some (.slice (some ⟨gN,0,none⟩) nw nw)/\w'.cell? ⟨r,2,none⟩=some (.slice (some ⟨ga,0,none⟩) nw nw)) ((first|exact⟨z3,z5,zr2⟩|exact⟨n3,n5,n2⟩|go_keep)) ((go_at_call 112;refine hj.mono ?_;rintro e w3 ⟨rfl,hp3,hg3⟩;have n3:=(show w3.cell? ⟨w.heap.size,0,none⟩=W.cell? ⟨w.heap.size,0,none⟩ from World.cell?_of_block (hg3.block (w.heap.size) (by show w.heap.size<W.heap.size;omega) (by intro e;have e:w.heap.size=gN:=Option.some.inj e;omega))).trans z3;have n5:=(show w3.cell? ⟨w2.heap.size,0,none⟩=W.cell? ⟨w2.heap.size,0,none⟩ from World.cell?_of_block (hg3.block (w2.heap.size) (by show w2.heap.size<W.heap.size;omega) (by intro e;have e:w2.heap.size=gN:=Option.some.inj e;omega))).trans z5;have n2:=(show w3.cell? ⟨r,2,none⟩=W.cell? ⟨r,2,none⟩ from World.cell?_of_block (hg3.block r (by show r<W.heap.size;omega) (by intro e;have e:r=gN:=Option.some.inj e;omega))).trans zr2))
   have n0:=(show w3.cell? ⟨r,0,none⟩=W.cell? ⟨r,0,none⟩ from World.cell?_of_block (hg3.block r (by show r<W.heap.size;omega) (by intro e;have e:r=gN:=Option.some.inj e;omega))).trans zr0;have hs3:W.heap.size<=w3.heap.size:=hg3.size;have same3:∀k,k<w.heap.size->w3.heap[k]?=w.heap[k]?:=fun k hk=>(hg3.block k (by show k<W.heap.size;omega) (by intro e;have e:k=gN:=Option.some.inj e;omega)).trans (HsW.out k hk)
   have K3:w3.heap[D]?=some (.deferred (some [])):=(hg3.block D (zrc.1 HhK.out).1 (by intro e;have e:D=gN:=Option.some.inj e;omega)).trans HhK.out;have ht:=Hht.out;have CW3:=C.keep (w':=w3) (fun k hk=>same3 k (zsc hk C.le)) (by omega);obtain⟨X,hX⟩:∃X,w3.drew=X:=⟨_,rfl⟩;have Xos:X.os=w.os:=by rw[<-hX];exact(show w3.os=_ from hg3.os).trans ((show W.os=_ from ht.os).trans (hb0.os.trans hb1.os))
   have Xtp:X.tape=w.tape:=by rw[<-hX];exact(show w3.tape=_ from hg3.tape).trans ((show W.tape=_ from ht.tape).trans (hb0.tape.trans hb1.tape))
   have Xop:X.output=w.output:=by rw[<-hX];exact(show w3.output=_ from hg3.output).trans ((show W.output=_ from ht.output).trans (hb0.output.trans hb1.output))
   have Xsz:w.heap.size<=X.heap.size:=by rw[<-hX];show _<=w3.heap.size;omega
   have Xsame:∀k,k<w.heap.size->X.heap[k]?=w.heap[k]?:=by rw[<-hX];exact same3
   have Xn:∀q,q<64*nw->zae (orT U A) q=true->q<n:=fun q hq h3=>by
    rw[zeE,zrg] at h3;exact h3.elim (hUn q hq) (C.ab q hq)
   have Xq:∀q,q<64*nw->(zae (orT U A) q=true↔(∃p,p<64*nw/\zae (Ts i) p=true/\zae (Lk p) q=true)\/(true=true/\zae A q=true)):=fun q _=>by
    rw[zeE,zrg,hUq];exact or_congr Iff.rfl ⟨fun h=>⟨rfl,h⟩,fun h=>h.2⟩
   have htk:=ziK n nw bt gN nw c sv fv mk f (orT U A) w3.drew CW3.box (fun hn=>by obtain⟨gs,cs,e1,e2,e3⟩:=CW3.svs hn;exact⟨gs,cs,e1,by show gs<w3.heap.size;omega,e3⟩) (fun p hp=>(CW3.mks p hp).1) ⟨hp3.row,hp3.lt⟩ Xn CW3.nwl hc CW3.bru (by show 0<w3.heap.size;omega);rw[hX] at htk;have hnumr:=fun(w5:World) (g4:Nat) (U4:Nat->Nat) (hb:Below X.heap.size X w5) (hg4:X.heap.size<=g4) (hp:zal w5 nw g4 U4) (hbits:∀q,zae U4 q=true↔q<64*nw/\zae (orT U A) q=true/\f q c=true)=>ziw C h hM hS (b:=true) hi hc hm hk (w5:=w5) (hb.os.trans Xos) (hb.tape.trans Xtp) (hb.output.trans Xop) (zsb Xsz hb.size) (fun k hk=>(hb.block k (zsc hk Xsz)).trans (Xsame k hk)) (g4:=g4) (U4:=U4) (zsb Xsz hg4) hp (fun q hq=>Xn q ((hbits q).1 hq).1 ((hbits q).1 hq).2.1) (fun q hq=>by
    rw[hbits q];constructor
    ·rintro ⟨_,h3,h4⟩;exact⟨h4,(Xq q hq).1 h3⟩
    ·rintro ⟨h3,h4⟩;exact⟨hq,(Xq q hq).2 h4,h3⟩)
   simp only[hcode] at hnumr;have Hno:Hid (∀k,O k->k<w.heap.size):=fun k hk=>(hO k hk).2
   have Hh:Hid (hnumr=hnumr):=rfl;clear Hh h hM hS hO C C0 CW CW3 HW hUb hys hU h1 cS1 hgS hcur b0 b1 b2 b3 b4 b5 b6 b7 c0 x0 y0 y1 y2 y5 y7 z0 yN y1s hmc hdk hcode;have X3:X.cell? ⟨w.heap.size,0,none⟩=some (.pointer (some ⟨r,0,none⟩)):=by rw[<-hX];exact n3
   have X5:X.cell? ⟨w2.heap.size,0,none⟩=some (.slice (some ⟨gN,0,none⟩) nw nw):=by rw[<-hX];exact n5
   have X0:X.cell? ⟨r,0,none⟩=some (.pointer (some ⟨bt,0,none⟩)):=by rw[<-hX];exact n0
   have XD:X.heap[D]?=some (.deferred (some [])):=by rw[<-hX];exact K3
   have XDl:D<X.heap.size:=(zrc.1 XD).1;have Xwl:w.heap.size<X.heap.size:=by rw[<-hX];show _<w3.heap.size;omega
   have Xw2:w2.heap.size<X.heap.size:=by rw[<-hX];show _<w3.heap.size;omega
   have Xr:r<X.heap.size:=by omega
   have hw2g:w.heap.size<=w2.heap.size:=by omega
   have hDw:w.heap.size<=D:=by omega
   have HXD:Hid _:=XD;clear XD HhK ht HsW Hht K3 same3 hUq hUn Xos Xtp Xop Xsame Xn Xq same0 hj hp3 hg3
   go_wp2_with fail
   go_region_held3 (fun w'=>w'.cell? ⟨w.heap.size,0,none⟩=some (.pointer (some ⟨r,0,none⟩))/\w'.cell? ⟨w2.heap.size,0,none⟩=some (.slice (some ⟨gN,0,none⟩) nw nw)/\w'.cell? ⟨r,0,none⟩=some (.pointer (some ⟨bt,0,none⟩))) ((first|exact⟨X3,X5,X0⟩|exact⟨n3,n5,n0⟩|exact⟨q3,q5,q0⟩|exact⟨p3,p5,p0⟩|go_keep)) ((first|(go_at_call 114;refine htk.mono ?_;rintro e w5 ⟨g4,U4,rfl,hg4,hp4,hb4,hbel5⟩;have q3:=(hbel5.cell (p:=⟨w.heap.size,0,none⟩) Xwl).trans X3;have q5:=(hbel5.cell (p:=⟨w2.heap.size,0,none⟩) Xw2).trans X5;have q0:=(hbel5.cell (p:=⟨r,0,none⟩) Xr).trans X0)|(go_at_call 113;refine(hnumr w5 g4 U4 hbel5 hg4 hp4 hb4).mono ?_;rintro e w6 ⟨t,W7,rfl,tc6,zm6,p0,hput,h7o,HR⟩;have p3:w6.cell? ⟨w.heap.size,0,none⟩=some (.pointer (some ⟨r,0,none⟩)):=(World.cell?_of_block (tc6.same w.heap.size (by have:=hbel5.size;omega) (fun e=>by have:=Hno.out _ e;omega))).trans q3;have p5:w6.cell? ⟨w2.heap.size,0,none⟩=some (.slice (some ⟨gN,0,none⟩) nw nw):=(World.cell?_of_block (tc6.same w2.heap.size (by have:=hbel5.size;omega) (fun e=>by have:=Hno.out _ e;omega))).trans q5)))
   all_goals
    have hK7:W7.heap[D]?=some (.deferred (some [])):=by
     rw[h7o D (by omega),tc6.same D (by have:=hbel5.size;omega) (fun e=>by have:=Hno.out _ e;omega),hbel5.block D XDl];exact HXD.out
    have HRD:=HR.out D hDw hK7;have Hfin:Hid _:=HRD;clear HRD HR hnumr htk;go_wp2;refine⟨by simp,.inl ⟨_,_,rfl,run_takeDeferred hK7,?_⟩⟩;exact⟨.int .i64 t,by simp[results,Tryz.results92,go_sem],Hfin.out⟩
end
section
open Go.RowKit
attribute [local go_sem ↓] Go.wp_at_zero Go.wp_at_succ
theorem zql{B:Nat}{O:Nat->Prop}{w:World}{n r nw bt ga gl:Nat}{lv sv fv:Value}{lr mk:Nat->Nat}{Lk:Nat->Nat->Nat}{A L:Nat->Nat}{f:Nat->Nat->Bool}{gm gv:Nat}{sS sP:Value}{gx:Nat->Nat}{Ts:Nat->Nat->Nat}{m:Nat}{es:List (Int×Int)}(C:StC B w n nw bt ga gl lv sv fv lr mk Lk A L f)(hO:∀k,O k->B<=k/\k<w.heap.size)(h:RdS O w r nw bt ga gl lv L gm gv sS sP gx Ts m es)(hM:MvOk nw f Lk A Ts m es)(hS:ziW n nw Ts m)(i c:Nat)(b:Bool)(hi:i<m)(hc:c<256)(hm:m<=100000000):
  Calls Tryz.prog 92 #[.pointer (some ⟨r,0,none⟩),.int .i64 i,.int .u8 c,.bool b] w fun e w'=>zk2 O w n r nw bt ga gl lv f Lk A L gm gv gx Ts m i c b e w':=by
 by_cases hk:zbF i c b∈za4 es
 ·refine(zpa h hM hS i c b hc hi hm hk).mono fun e w' hR=>?_
  obtain⟨t,m',sS',sP',gx',Ts',es',h1,h2,h3⟩:=hR;exact⟨t,m',sS',sP',gx',Ts',es',h1,h2,h3⟩
 ·exact zo9 C hO h hM hS i c b hi hc hm hk
def NewP(w:World)(nw bt ga gl:Nat)(lv:Value)(L:Nat->Nat)(e:Ending)(w':World):Prop:=
 ∃(r gm gv:Nat) (sS sP:Value) (gx:Nat->Nat) (Ts:Nat->Nat->Nat),e=.returned (.pointer (some ⟨r,0,none⟩))/\RdS (fun k=>w.heap.size<=k/\k<w'.heap.size) w' r nw bt ga gl lv L gm gv sS sP gx Ts 1 []/\(∀x,x<nw->Ts 0 x=0)/\Below w.heap.size w w'
theorem zeT(nw bt ga gl ln lc:Nat)(la:Option Addr)(sv fv:Value)(L:Nat->Nat)(w:World)(hbox:zeo w bt nw sv fv)(hL:zal w nw gl L)(hnw:nw<=1000):
  Calls Tryz.prog 104 #[.pointer (some ⟨bt,0,none⟩),.slice la ln lc,.slice (some ⟨ga,0,none⟩) nw nw,.slice (some ⟨gl,0,none⟩) nw nw] w fun e w'=>NewP w nw bt ga gl (.slice la ln lc) L e w':=by
 obtain⟨W1,hW1⟩:∃W1,((w.alloc (.map #[] 0)).alloc (.map #[] 0)).alloc (.cells #[.pointer (some ⟨bt,0,none⟩),.slice la ln lc,.slice (some ⟨ga,0,none⟩) nw nw,.slice (some ⟨gl,0,none⟩) nw nw,.map (some w.heap.size),.slice none 0 0,.slice none 0 0,.map (some (w.heap.size+1))] 182)=W1:=⟨_,rfl⟩;have hb1:Below w.heap.size w W1:=by rw[<-hW1];exact(((Below.refl _ _).alloc (zsa _) _).alloc (by simp) _).alloc (by simp;omega) _
 have e0:W1.heap[w.heap.size]?=some (.map #[] 0):=by rw[<-hW1];exact zah (zah (zsp _ _))
 have e1:W1.heap[w.heap.size+1]?=some (.map #[] 0):=by
  rw[<-hW1];have:=zsp (w.alloc (.map #[] 0)) (.map #[] 0);exact zah (by simpa using this)
 have e2:W1.heap[w.heap.size+1+1]?=some (.cells #[.pointer (some ⟨bt,0,none⟩),.slice la ln lc,.slice (some ⟨ga,0,none⟩) nw nw,.slice (some ⟨gl,0,none⟩) nw nw,.map (some w.heap.size),.slice none 0 0,.slice none 0 0,.map (some (w.heap.size+1))] 182 (0,0)):=by
  rw[<-hW1];have:=zsp ((w.alloc (.map #[] 0)).alloc (.map #[] 0)) (.cells #[.pointer (some ⟨bt,0,none⟩),.slice la ln lc,.slice (some ⟨ga,0,none⟩) nw nw,.slice (some ⟨gl,0,none⟩) nw nw,.map (some w.heap.size),.slice none 0 0,.slice none 0 0,.map (some (w.heap.size+1))] 182)
  simpa using this
 have hs:w.heap.size+1+1<W1.heap.size:=(zrc.1 e2).1;have hno:=zdQ nw bt sv fv W1 ((hb1.block bt (zrc.1 hbox).1).trans hbox) hnw;have hnum:=fun(W:World) (hb:Below W1.heap.size W1 W) (hp:zal W nw W1.heap.size zaQ)=>zde (O:=fun k=>w.heap.size<=k/\k<W1.heap.size) (w:=W) (r:=w.heap.size+1+1) (nw:=nw) (bt:=bt) (ga:=ga) (gl:=gl) (lv:=.slice la ln lc) (L:=L) (gm:=w.heap.size) (gv:=w.heap.size+1) (sS:=.slice none 0 0) (sP:=.slice none 0 0) (gx:=fun _=>0) (Ts:=fun _=>zaQ) (m:=0) (es:=[])
  ⟨(hb.block _ hs).trans e2,(hb.block _ (by omega)).trans e0,(hb.block _ (by omega)).trans e1,⟨rfl,.inl ⟨rfl,rfl⟩⟩,⟨rfl,.inl ⟨rfl,rfl⟩⟩,fun i hi=>by omega,by omega,⟨by omega,hs⟩,⟨zsa _,by omega⟩,⟨by omega,by omega⟩,fun k e=>by simp[Value.ownBlock] at e,fun k e=>by simp[Value.ownBlock] at e,fun i hi=>by omega,fun i j hi=>by omega⟩
  W1.heap.size zaQ hp ((hL.below hb1).below hb) hnw (by omega)
 clear e0 e1 e2;have hmm:=@run_makeMap Tryz.prog
 go_enter Tryz.func104,Tryz.ntmps104
 go_wp2_with (go_at_call 107;refine hno.mono ?_;rintro e w2 ⟨rfl,hz2,hg2⟩)
 have hb2:Below W1.heap.size W1 w2:=⟨hg2.os,hg2.tape,hg2.output,hg2.size,fun k hk=>hg2.block k hk (by simp)⟩;refine(hnum w2 hb2 hz2).mono ?_;rintro e w3 ⟨i,m',sS',sP',gx',Ts',rfl,hR,hi,hm1,hm2,hold,heq,hnew,tc⟩;have hbel2:=zaa hb1 hb1.size hb2;have Hfin:Hid (NewP w nw bt ga gl (.slice la ln lc) L (.returned (.pointer (some ⟨w.heap.size+1+1,0,none⟩))) w3):=by
  have e1:m'=1:=by omega
  have e0:i=0:=by omega
  subst e1 e0;refine⟨_,_,_,sS',sP',gx',Ts',rfl,hR.lt.mono fun k ⟨ho,hl⟩=>⟨?_,hl⟩,heq,tc.os.trans hbel2.os,tc.tape.trans hbel2.tape,tc.output.trans hbel2.output,zsb hbel2.size tc.size,fun k hk=>?_⟩
  ·have:=hb2.size;rcases ho with ho|ho|ho<;>omega
  ·rw[tc.same k (by have:=hbel2.size;omega) (fun e=>by omega)];exact hbel2.block k hk
 clear hR hold heq hnew tc hnum hno hmm;go_wp2;exact zsl (v:=.pointer (some ⟨w.heap.size+1+1,0,none⟩)) (by simp[results,Tryz.results104,go_sem]) rfl Hfin.out
end
variable {u:Word}{p q b:Pt}{i j:Nat}{mx:Int}{P:Nat -> Prop}
def Lg(u:Word)(p:Pt)(i j:Nat):Prop:=i<=j/\j<=u.length/\In p ((u.drop i).take (j-i))
theorem zm5:Lg u p i j↔zaU u (In p) (· = i) j:=
 ⟨fun h=>⟨i,rfl,h⟩,fun⟨_,e,h⟩=>by subst e;exact h⟩
theorem zbj(h:∀w,In p w↔In q w){i j:Nat}:Lg u p i j↔Lg u q i j:=and_congr_right fun _=>and_congr_right fun _=>h _
theorem zm7:Lg u (.seq p q) i j↔∃k,Lg u p i k/\Lg u q k j:=by
 rw[zm5];refine(ze8 (L:=In p) (M:=In q) j).trans ?_;constructor
 ·rintro ⟨k,⟨_,rfl,h⟩,h2⟩;exact⟨k,h,h2⟩
 ·rintro ⟨k,h,h2⟩;exact⟨k,⟨i,rfl,h⟩,h2⟩
theorem zm4:Lg u (.alt p q) i j↔Lg u p i j\/Lg u q i j:=by
 constructor
 ·rintro ⟨h1,h2,h|h⟩
  ·exact .inl ⟨h1,h2,h⟩
  ·exact .inr ⟨h1,h2,h⟩
 ·rintro (⟨h1,h2,h⟩|⟨h1,h2,h⟩)
  ·exact⟨h1,h2,.inl h⟩
  ·exact⟨h1,h2,.inr h⟩
def Cp(u:Word)(b:Pt):Nat->Nat->Nat->Prop
 |0,i,j=>i=j
 |k+1,i,j=>∃m,Lg u b i m/\Cp u b k m j
theorem zkk:∀(k i j:Nat),j<=u.length->((i<=j/\Pow (In b) k ((u.drop i).take (j-i)))↔Cp u b k i j)
 |0,i,j,hj=>by
  constructor
  ·rintro ⟨h1,h⟩;have h':(u.drop i).take (j-i)=[]:=h;have hlen:((u.drop i).take (j-i)).length=j-i:=by simp;omega
   rw[h'] at hlen;simp only[zrN] at hlen;show i=j;omega
  ·intro h;have h:i=j:=h;subst h;exact⟨zsa _,by rw[zsh];rfl⟩
 |k+1,i,j,hj=>by
  have e:=(ze8 (u:=u) (L:=In b) (M:=Pow (In b) k) (F:=(· = i)) j);constructor
  ·rintro ⟨h1,h⟩;obtain⟨m,⟨_,rfl,h2⟩,h3,_,h4⟩:=e.1 ⟨i,rfl,h1,hj,h⟩;exact⟨m,h2,(zkk k m j hj).1 ⟨h3,h4⟩⟩
  ·rintro ⟨m,h2,h3⟩;obtain⟨h4,h5⟩:=(zkk k m j hj).2 h3;obtain⟨_,e0,h6,_,h7⟩:=e.2 ⟨m,⟨i,rfl,h2⟩,h4,hj,h5⟩;subst e0;exact⟨h6,h7⟩
theorem zcX{mn:Int}:Lg u (.rep b mn mx) i j↔j<=u.length/\∃k:Nat,mn<=k/\(mx=-1\/(k:Int)<=mx)/\Cp u b k i j:=by
 constructor
 ·rintro ⟨h1,h2,k,h3,h4,h5⟩;exact⟨h2,k,h3,h4,(zkk k i j h2).1 ⟨h1,h5⟩⟩
 ·rintro ⟨h2,k,h3,h4,h5⟩;obtain⟨h1,h6⟩:=(zkk k i j h2).2 h5;exact⟨h1,h2,k,h3,h4,h6⟩
def Gre(P:Nat->Prop)(i j k:Nat):Prop:=i<=k/\k<=j/\P k/\∀m,k<m->m<=j->¬P m
theorem zd3:∀(j:Nat),(∃k,i<=k/\k<=j/\P k)->∃k,Gre P i j k
 |0,⟨k,h1,h2,h3⟩=>⟨k,h1,h2,h3,fun m a b=>by omega⟩
 |j+1,⟨k,h1,h2,h3⟩=>by
  by_cases h:i<=j+1/\P (j+1)
  ·exact⟨j+1,h.1,zsa _,h.2,fun m a b=>by omega⟩
  ·have hk:k<=j:=by
    rcases zsd j k with a|a
    ·obtain rfl:k=j+1:=by omega
     exact absurd ⟨h1,h3⟩ h
    ·exact a
   obtain⟨m,g1,g2,g3,g4⟩:=zd3 j ⟨k,h1,hk,h3⟩;refine⟨m,g1,by omega,g3,fun x a b hx=>?_⟩;rcases zsd j x with c|c
   ·obtain rfl:x=j+1:=by omega
    exact h ⟨by omega,hx⟩
   ·exact g4 x a c hx
theorem Gre.congr{Q:Nat->Prop}{k:Nat}(h:Gre P i j k)(he:∀m,i<=m->m<=j->(P m↔Q m)):Gre Q i j k:=
 ⟨h.1,h.2.1,(he k h.1 h.2.1).1 h.2.2.1,fun m a b hq=>h.2.2.2 m a b ((he m (by have:=h.1;omega) b).2 hq)⟩
abbrev Up:=Int×Nat×Nat
inductive CpR (L:Nat->Nat->Prop) (R:Nat->Nat->List Up->Prop) (C:Nat->Int->Nat->Nat->Prop):Nat->Int->Nat->Nat->List Up->Prop
 |done (i j:Nat):CpR L R C 0 0 i j []
 |void (i:Nat):CpR L R C 0 (-1) i i []
 |out (mx:Int) (i j:Nat) (h:0<mx) (hn:∀k,i<=k->k<=j->¬(L i k/\C 0 (mx-1) k j)):CpR L R C 0 mx i j []
 |must (mn:Nat) (mx:Int) (i j k:Nat) (l1 l2:List Up) (h:Gre (fun k=>L i k/\C mn (if 0<mx then mx-1 else mx) k j) i j k) (h1:R i k l1) (h2:CpR L R C mn (if 0<mx then mx-1 else mx) k j l2):CpR L R C (mn+1) mx i j (l1++l2)
 |may (mx:Int) (i j k:Nat) (l1 l2:List Up) (hm:0<mx) (h:Gre (fun k=>L i k/\C 0 (mx-1) k j) i j k) (h1:R i k l1) (h2:CpR L R C 0 (mx-1) k j l2):CpR L R C 0 mx i j (l1++l2)
 |more (i j k:Nat) (l1 l2:List Up) (hi:i<j) (h:Gre (fun k=>L i k/\C 0 (-1) k j) (i+1) j k) (h1:R i k l1) (h2:CpR L R C 0 (-1) k j l2):CpR L R C 0 (-1) i j (l1++l2)
def Pl(u:Word):Pt->Nat->Nat->List Up->Prop
 |.set _,_,_,l=>l=[]
 |.grp b g,i,j,l=>∃m,l=(g,i,j)::m/\Pl u b i j m
 |.seq p q,i,j,l=>∃k l1 l2,Gre (fun k=>Lg u p i k/\Lg u q k j) i j k/\Pl u p i k l1/\Pl u q k j l2/\l=l1++l2
 |.alt p q,i,j,l=>(Lg u p i j/\Pl u p i j l)\/(¬Lg u p i j/\Pl u q i j l)
 |.rep b mn mx,i,j,l=>CpR (Lg u b) (Pl u b) (fun mn mx i j=>Lg u (.rep b mn mx) i j) mn.toNat mx i j l
theorem zjZ{mn:Nat}(hb:mx=-1\/(mn:Int)+1<=mx):Lg u (.rep b ((mn+1:Nat):Int) mx) i j↔∃k,Lg u b i k/\Lg u (.rep b mn (if 0<mx then mx-1 else mx)) k j:=by
 rw[zcX];constructor
 ·rintro ⟨h2,k,h3,h4,h5⟩;obtain⟨n,rfl⟩:∃n,k=n+1:=⟨k-1,by omega⟩;obtain⟨m,h6,h7⟩:=h5;refine⟨m,h6,zcX.2 ⟨h2,n,by omega,?_,h7⟩⟩;rcases h4 with rfl|h4
  ·left;decide
  ·right;split<;>omega
 ·rintro ⟨k,h1,h⟩;obtain⟨h2,n,h3,h4,h5⟩:=zcX.1 h;refine⟨h2,n+1,by omega,?_,k,h1,h5⟩;rcases hb with rfl|hb
  ·left;rfl
  ·right
   rw[zst (by omega)] at h4;omega
theorem zqh(hm:0<mx)(h:Lg u (.rep b 0 mx) i j):i=j\/∃k,Lg u b i k/\Lg u (.rep b 0 (mx-1)) k j:=by
 obtain⟨h2,k,h3,h4,h5⟩:=zcX.1 h;cases k with
 |zero=>exact .inl h5
 |succ n=>
  obtain⟨m,h6,h7⟩:=h5;exact .inr ⟨m,h6,zcX.2 ⟨h2,n,by omega,.inr (by rcases h4 with h4|h4<;>omega),h7⟩⟩
theorem zmq:∀{k i j:Nat},Cp u b k i j->i<j->∃n m,n<k/\i<m/\Lg u b i m/\Cp u b n m j
 |0,i,j,h,hij=>absurd (show i=j from h) (by omega)
 |k+1,i,j,⟨m,h1,h2⟩,hij=>by
  by_cases hm:i<m
  ·exact⟨k,m,by omega,hm,h1,h2⟩
  ·obtain rfl:m=i:=by have:=h1.1;omega
   obtain⟨n,x,a,b,c,d⟩:=zmq h2 hij;exact⟨n,x,by omega,b,c,d⟩
theorem zkU(hij:i<j)(h:Lg u (.rep b 0 (-1)) i j):∃k,i+1<=k/\Lg u b i k/\Lg u (.rep b 0 (-1)) k j:=by
 obtain⟨h2,k,h3,h4,h5⟩:=zcX.1 h;obtain⟨n,m,_,h6,h7,h8⟩:=zmq h5 hij;exact⟨m,h6,h7,zcX.2 ⟨h2,n,by omega,.inl rfl,h8⟩⟩
theorem zkl(ih:∀i j,Lg u b i j->∃l,Pl u b i j l):∀(mn:Nat) (mx:Int),(mx=-1\/(mn:Int)<=mx)->∀i j,Lg u (.rep b mn mx) i j->∃l,CpR (Lg u b) (Pl u b) (fun mn mx i j=>Lg u (.rep b mn mx) i j) mn mx i j l
 |mn+1,mx,hb,i,j,h=>by
  obtain⟨k0,h1,h2⟩:=(zjZ (by omega)).1 h;obtain⟨k,hk⟩:=zd3 (P:=fun k=>Lg u b i k/\Lg u (.rep b mn (if 0<mx then mx-1 else mx)) k j) (i:=i) j ⟨k0,h1.1,h2.1,h1,h2⟩;obtain⟨l1,e1⟩:=ih i k hk.2.2.1.1;obtain⟨l2,e2⟩:=zkl ih mn (if 0<mx then mx-1 else mx) (by split<;>omega) k j hk.2.2.1.2;exact⟨_,.must mn mx i j k l1 l2 hk e1 e2⟩
 |0,mx,hb,i,j,h=>by
  rcases Int.lt_trichotomy mx 0 with hm|hm|hm
  ·obtain rfl:mx=-1:=by omega
   have:∀(n i:Nat),j-i<=n->Lg u (.rep b ((0:Nat):Int) (-1)) i j->∃l,CpR (Lg u b) (Pl u b) (fun mn mx i j=>Lg u (.rep b mn mx) i j) 0 (-1) i j l:=by
    intro n
    induction n with
    |zero=>
     intro i hn h;obtain rfl:i=j:=by have:=h.1;omega
     exact⟨_,.void i⟩
    |succ n ihn=>
     intro i hn h
     by_cases hij:i<j
     ·obtain⟨k0,h1,h2,h3⟩:=zkU hij h;obtain⟨k,hk⟩:=zd3 (P:=fun k=>Lg u b i k/\Lg u (.rep b ((0:Nat):Int) (-1)) k j) (i:=i+1) j ⟨k0,h1,h3.1,h2,h3⟩;obtain⟨l1,e1⟩:=ih i k hk.2.2.1.1;obtain⟨l2,e2⟩:=ihn k (by have:=hk.1;omega) hk.2.2.1.2;exact⟨_,.more i j k l1 l2 hij hk e1 e2⟩
     ·obtain rfl:i=j:=by have:=h.1;omega
      exact⟨_,.void i⟩
   exact this _ i (zsa _) h
  ·subst hm;exact⟨_,.done i j⟩
  ·obtain⟨n,rfl⟩:∃n:Nat,mx=n:=⟨mx.toNat,by omega⟩;clear hb hm
   induction n generalizing i with
   |zero=>exact⟨_,.done i j⟩
   |succ n ihn=>
    by_cases hn:∀k,i<=k->k<=j->¬(Lg u b i k/\Lg u (.rep b 0 (((n+1:Nat):Int)-1)) k j)
    ·exact⟨_,.out _ i j (by omega) hn⟩
    ·have:∃k,i<=k/\k<=j/\(Lg u b i k/\Lg u (.rep b ((0:Nat):Int) (((n+1:Nat):Int)-1)) k j):=by
      apply Classical.byContradiction
      intro hc;exact hn fun k a b h=>hc ⟨k,a,b,h⟩
     obtain⟨k,hk⟩:=zd3 j this;obtain⟨l1,e1⟩:=ih i k hk.2.2.1.1;have e0:(((n+1:Nat):Int)-1)=(n:Int):=by omega
     obtain⟨l2,e2⟩:=ihn k (by rw[<-e0];exact hk.2.2.1.2);exact⟨_,.may _ i j k l1 l2 (by omega) hk e1 (by rw[e0];exact e2)⟩
def OkP:Pt->Prop
 |.set _=>True
 |.seq p q=>OkP p/\OkP q
 |.alt p q=>OkP p/\OkP q
 |.rep b mn mx=>OkP b/\0<=mn/\(mx=-1\/mn<=mx)
 |.grp b _=>OkP b
theorem zcj:∀(p:Pt),OkP p->∀i j,Lg u p i j->∃l,Pl u p i j l
 |.set _,_,_,_,_=>⟨[],rfl⟩
 |.grp b g,ho,i,j,h=>by
  obtain⟨l,e⟩:=zcj b ho i j h;exact⟨_,l,rfl,e⟩
 |.seq p q,ho,i,j,h=>by
  obtain⟨k0,h1,h2⟩:=zm7.1 h;obtain⟨k,hk⟩:=zd3 (P:=fun k=>Lg u p i k/\Lg u q k j) (i:=i) j ⟨k0,h1.1,h2.1,h1,h2⟩;obtain⟨l1,e1⟩:=zcj p ho.1 i k hk.2.2.1.1;obtain⟨l2,e2⟩:=zcj q ho.2 k j hk.2.2.1.2;exact⟨_,k,l1,l2,hk,e1,e2,rfl⟩
 |.alt p q,ho,i,j,h=>by
  by_cases hp:Lg u p i j
  ·obtain⟨l,e⟩:=zcj p ho.1 i j hp;exact⟨l,.inl ⟨hp,e⟩⟩
  ·obtain⟨l,e⟩:=zcj q ho.2 i j ((zm4.1 h).resolve_left hp);exact⟨l,.inr ⟨hp,e⟩⟩
 |.rep b mn mx,ho,i,j,h=>by
  obtain⟨h1,h2,h3⟩:=ho;obtain⟨m,rfl⟩:∃m:Nat,mn=m:=⟨mn.toNat,by omega⟩;exact zkl (zcj b h1) m mx h3 i j h
end Go.Proofs.YthdljcdbfmhleaaGreatDoor
