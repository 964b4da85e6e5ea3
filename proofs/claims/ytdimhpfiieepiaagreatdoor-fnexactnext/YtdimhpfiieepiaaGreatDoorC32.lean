import Derived.Test.YtdimhpfiieepiaaGreatDoorC29
import Derived.Test.YtdimhpfiieepiaaGreatDoorC31
namespace Go.Proofs.YtdimhpfiieepiaaGreatDoor
set_option maxHeartbeats 4000000
set_option maxRecDepth 100000
section
variable{O:Nat -> Prop}{w:World}{r nw bt ga gl gm gv m B n:Nat}{lv sS sP sv fv:Value}{L gx lr mk A:Nat -> Nat}{Ts Lk:Nat -> Nat -> Nat}{es:List (Int×Int)}{f:Nat -> Nat -> Bool}
open Go.RowKit
attribute [local go_sem] Oper.semAt_some
theorem RdS.keepC{w':World}(h:RdS O w r nw bt ga gl lv L gm gv sS sP gx Ts m es)(hc:∀(k:Nat) (cs:Array Value) (t:TypeId),w.heap[k]?=some (.cells cs t (0,0))->w'.heap[k]?=some (.cells cs t (0,0)))(hm:∀(k:Nat) (e:Array MapEntry) (c:Nat),w.heap[k]?=some (.map e c)->w'.heap[k]?=some (.map e c)):RdS O w' r nw bt ga gl lv L gm gv sS sP gx Ts m es:=
 ⟨hc _ _ _ h.box,hm _ _ _ h.nm,hm _ _ _ h.mv,zaw h.so fun _ _ e=>hc _ _ _ e,zaw h.po fun _ _ e=>hc _ _ _ e,fun i hi=>⟨hc _ _ _ (h.set i hi).row,(h.set i hi).lt⟩,h.dif,h.or,h.om,h.ov,h.os,h.op,h.ox,h.nd⟩
theorem RdS.putM{es':List (Int×Int)}(h:RdS O w r nw bt ga gl lv L gm gv sS sP gx Ts m es):RdS O {w with heap:=w.heap.setIfInBounds gv (.map (moE es') es'.length)} r nw bt ga gl lv L gm gv sS sP gx Ts m es':=by
 have hs:=MapKept.heap_set (o':=.map (moE es') es'.length) h.mv;have hc:∀(k:Nat) (cs:Array Value) (t:TypeId),w.heap[k]?=some (.cells cs t (0,0))->(w.heap.setIfInBounds gv (.map (moE es') es'.length))[k]?=some (.cells cs t (0,0)):=fun k cs t e=>(hs.2 k (fun e2=>by rw[e2,h.mv] at e;cases e)).trans e
 exact⟨hc _ _ _ h.box,(hs.2 gm h.dif).trans h.nm,hs.1,zaw h.so fun _ _ e=>hc _ _ _ e,zaw h.po fun _ _ e=>hc _ _ _ e,fun i hi=>⟨hc _ _ _ (h.set i hi).row,(h.set i hi).lt⟩,h.dif,h.or,h.om,h.ov,h.os,h.op,h.ox,h.nd⟩
theorem zjH{T U:Nat->Nat}(h:∀x,x<nw->T x=U x){q:Nat}(hq:q<64*nw):zai T q=zai U q:=by
 unfold zai;rw[h (q/64) (by omega)]
theorem zkw(C:StC B w n nw bt ga gl lv sv fv lr mk Lk A L f)(h:RdS O w r nw bt ga gl lv L gm gv sS sP gx Ts m es)(hM:MvOk nw f Lk A Ts m es)(hS:zk4 n nw Ts m){i c:Nat}{b:Bool}(hi:i<m)(hc:c<256)(hm:m<=100000000)(hk:zca i c b∉zbp es)
  {w5:World} (hos:w5.os=w.os) (htp:w5.tape=w.tape) (hop:w5.output=w.output) (hsz:w.heap.size<=w5.heap.size) (hsame:∀k,k<w.heap.size->w5.heap[k]?=w.heap[k]?) {g4:Nat} {U4:Nat->Nat} (hg4:w.heap.size<=g4) (hp:zar w5 nw g4 U4) (hU:∀q,zai U4 q=true->q<n) (hst:zgz nw f Lk A (Ts i) c b U4):
  Calls Tryz.prog 169 #[.pointer (some ⟨r,0,none⟩),.slice (some ⟨g4,0,none⟩) nw nw] w5 fun e w6=>∃(t:Nat) (W7:World),e=.returned (.int .i64 t)/\zam O w5 w6/\w6.cell? ⟨r,7,none⟩=some (.map (some gv))/\w6.cell? ⟨r,0,none⟩=some (.pointer (some ⟨bt,0,none⟩))/\(Instr.mapUpdate 232 (.map (some gv)) (.int .i64 (zca i c b)) (.int .i64 t)).run Tryz.prog w6=.ok () W7/\(∀k,k≠gv->W7.heap[k]?=w6.heap[k]?)/\
   Hid (∀D,w.heap.size<=D->W7.heap[D]?=some (.deferred (some []))->znn O w n r nw bt ga gl lv f Lk A L gm gv gx Ts m i c b (.returned (.int .i64 t)) (W7.putObj D (.deferred none))):=by
 have h5:=h.keep (w':=w5) fun k _ hl=>hsame k hl
 have hL5:zar w5 nw gl L:=⟨(hsame gl (zvL C.pl.2 C.le)).trans C.pl.1.row,C.pl.1.lt⟩;refine(zd8 h5 g4 U4 hp hL5 C.nwl hm).mono ?_;rintro e w6 ⟨t,m',sS',sP',gx',Ts',rfl,hR,ht,hm1,hm2,hold,heq,hnew,tc⟩;have hput:=zue w6 Tryz.underlying232 Tryz.underlying3 gv es (zca i c b) (t:Int) hk hR.mv;have hset:=MapKept.heap_set (o':=.map (moE (es++[(zca i c b,(t:Int))])) (es++[(zca i c b,(t:Int))]).length) hR.mv;refine⟨t,_,rfl,tc,(zaW hR.box).2.2.2.2.2.2.2,(zaW hR.box).1,hput,fun k hne=>hset.2 k hne,fun D hD hK=>?_⟩;have hR7:=hR.putM (es':=es++[(zca i c b,(t:Int))]);obtain⟨W7,hW7⟩:∃W7,({w6 with heap:=w6.heap.setIfInBounds gv (.map (moE (es++[(zca i c b,(t:Int))])) (es++[(zca i c b,(t:Int))]).length)}:World)=W7:=⟨_,rfl⟩;have e7:∀k,k≠gv->W7.heap[k]?=w6.heap[k]?:=fun k hne=>by rw[<-hW7];exact hset.2 k hne
 have s7:W7.heap.size=w6.heap.size:=by rw[<-hW7];simp
 have o7:W7.os=w6.os/\W7.tape=w6.tape/\W7.output=w6.output:=by rw[<-hW7];exact⟨rfl,rfl,rfl⟩
 rw[hW7] at hR7 hK ⊢;have hlt6:=tc.size;have hR8:=hR7.keepC (w':=W7.putObj D (.deferred none)) (fun k cs t e=>(World.putObj_heap_other (fun e2=>by subst e2;rw[hK] at e;cases e)).trans e) (fun k es c e=>(World.putObj_heap_other (fun e2=>by subst e2;rw[hK] at e;cases e)).trans e);have hTi:Ts' i=Ts i:=(hold i hi).2;have hst':zgz nw f Lk A (Ts i) c b (Ts' t):=fun q hq=>by rw[zjH heq hq];exact hst q hq
 refine⟨t,m',sS',sP',gx',Ts',es++[(zca i c b,(t:Int))],rfl,hR8.lt.mono fun k ⟨ho,hl⟩=>?_,ht,hm1,hm2,hold,hst',((hM.more hm1 fun j hj=>(hold j hj).2).put (by omega) hc ht hk (by rw[hTi];exact hst')),fun j q hj hq hb=>?_,?_⟩
 ·rcases ho with ho|rfl|ho
  ·exact .inl ho
  ·exact .inr ⟨hg4,hl⟩
  ·exact .inr ⟨by omega,hl⟩
 ·by_cases hjm:j<m
  ·rw[(hold j hjm).2] at hb;exact hS j q hjm hq hb
  ·have:=hnew j (by omega) hj;subst this;rw[zjH heq hq] at hb;exact hU q hb
 ·refine⟨(show W7.os=_ from o7.1).trans (tc.os.trans hos),(show W7.tape=_ from o7.2.1).trans (tc.tape.trans htp),(show W7.output=_ from o7.2.2).trans (tc.output.trans hop),by simp;omega,fun k hk hn=>?_⟩;rw[World.putObj_heap_other (by omega),e7 k (fun e=>hn (by rw[e];exact h.ov)),tc.same k (by omega) hn,hsame k hk]
theorem zse(C:StC B w n nw bt ga gl lv sv fv lr mk Lk A L f)(hO:∀k,O k->B<=k/\k<w.heap.size)(h:RdS O w r nw bt ga gl lv L gm gv sS sP gx Ts m es)(hM:MvOk nw f Lk A Ts m es)(hS:zk4 n nw Ts m)(i c:Nat)(b:Bool)(hi:i<m)(hc:c<256)(hm:m<=100000000)(hk:zca i c b∉zbp es):
  Calls Tryz.prog 147 #[.pointer (some ⟨r,0,none⟩),.int .i64 i,.int .u8 c,.bool b] w fun e w'=>znn O w n r nw bt ga gl lv f Lk A L gm gv gx Ts m i c b e w':=by
 obtain⟨W1,hW1⟩:∃W1,w.alloc (.cells #[.pointer (some ⟨r,0,none⟩)] 191)=W1:=⟨_,rfl⟩;have hb1:Below w.heap.size w W1:=by rw[<-hW1];exact(Below.refl _ _).alloc (zvJ _) _
 have k0:W1.heap[w.heap.size]?=some (.cells #[.pointer (some ⟨r,0,none⟩)] 191 (0,0)):=by rw[<-hW1];exact zvZ _ _
 have c0:W1.cell? ⟨w.heap.size,0,none⟩=some (.pointer (some ⟨r,0,none⟩)):=(zvW _ _ _ _ _ _ k0:_=_);have h1:=h.keep (w':=W1) fun k _ hl=>hb1.block k hl
 obtain⟨b0,b1,b2,b3,b4,b5,b6,b7⟩:=zaW h1.box;have hl:=zpW W1 Tryz.underlying232 Tryz.underlying3 (Tryz.zeroIntR W1) gv es (zca i c b) h1.mv;have hdk:decide (zca i c b∈zbp es)=false:=by simp[hk]
 rw[hdk,zpX hk] at hl;have hno:=zeO nw bt sv fv W1 ((hb1.block bt (zvL C.btB C.le)).trans C.box) C.nwl;have hmc:zca i c b=2*(256*(i:Int)+(c:Int))+(if b=true then 1 else 0):=rfl;obtain⟨mc,hmcv⟩:∃mc,zca i c b=mc:=⟨_,rfl⟩;rw[hmc] at hl;obtain⟨gS,cS,cur,rfl,hgS,hcur⟩:=zbz h.so (by omega);have cS1:w.cell? ⟨gS,i,none⟩=some (.slice (some ⟨gx i,0,none⟩) nw nw):=by
  rw[zvW _ _ _ _ _ _ hgS,hcur i hi];simp[slcL,hi]
 have hgSl:gS<w.heap.size:=(zuH.1 hgS).1;have hrl:r<w.heap.size:=(zuH.1 h.box).1;have hi0:(0:Int)<=(i:Int):=by omega
 have hi1:(i:Int)<(m:Int):=by omega
 have HW:∀W,Below W1.heap.size W1 W->W.cell? ⟨w.heap.size,0,none⟩=some (.pointer (some ⟨r,0,none⟩))/\(W.cell? ⟨r,0,none⟩=some (.pointer (some ⟨bt,0,none⟩))/\W.cell? ⟨r,1,none⟩=some lv/\W.cell? ⟨r,2,none⟩=some (.slice (some ⟨ga,0,none⟩) nw nw)/\W.cell? ⟨r,5,none⟩=some (.slice (some ⟨gS,0,none⟩) m cS)/\W.cell? ⟨r,7,none⟩=some (.map (some gv)))/\W.cell? ⟨gS,i,none⟩=some (.slice (some ⟨gx i,0,none⟩) nw nw):=fun W hb=>by
  have hs1:=hb1.size;have hc:=fun(d o:Nat) (hl:d<W1.heap.size)=>hb.cell (p:=⟨d,o,none⟩) hl
  have hw1:w.heap.size<W1.heap.size:=(zuH.1 k0).1;exact⟨(hc _ _ hw1).trans c0,⟨(hc _ _ (by omega)).trans b0,(hc _ _ (by omega)).trans b1,(hc _ _ (by omega)).trans b2,(hc _ _ (by omega)).trans b5,(hc _ _ (by omega)).trans b7⟩,(hc _ _ (by omega)).trans ((hb1.cell (p:=⟨gS,i,none⟩) hgSl).trans cS1)⟩
 refine(callsIn_wide (n:=5)).1 ?_;refine callsIn_of_wp_marks Tryz.func147 rfl trivial ?_ rfl;simp only[Tryz.ntmps147,zvA,zvi,zvk,Nat.reduceAdd,Nat.reduceSub,zuI,zuJ,zvx,zuT,zvw,zuU];have Hl:Hid _:=hl;cases b
 ·simp only[if_false,zuL,Int.add_zero] at hl
  gi_wp2_with (refine⟨trivial,?_⟩;gi_at_call 164;refine(callsIn_wide.2 hno).mono ?_;rintro e w2 ⟨rfl,hz2,hg2⟩;have hb2:Below W1.heap.size W1 w2:=⟨hg2.os,hg2.tape,hg2.output,hg2.size,fun k hk=>hg2.block k hk (by simp)⟩;obtain⟨W0,hW0⟩:∃W0,w2.alloc (.cells #[.slice (some ⟨W1.heap.size,0,none⟩) nw nw] 193)=W0:=⟨_,rfl⟩;have hb0:Below W1.heap.size W1 W0:=(by rw[<-hW0];exact hb2.alloc hb2.size _);obtain⟨z0,⟨y0,y1,y2,y5,y7⟩,x0⟩:=HW W0 hb0)
  have x5:W0.heap[w2.heap.size]?=some (.cells #[.slice (some ⟨W1.heap.size,0,none⟩) nw nw] 193 (0,0)):=by rw[<-hW0];exact zvZ _ _
  have yN:zar W0 nw W1.heap.size za0:=by rw[<-hW0];exact⟨zak hz2.row,hz2.lt⟩
  have hzl:=hz2.glt;have hw1:w.heap.size<W1.heap.size:=(zuH.1 k0).1;have hsz:w2.heap.size<W0.heap.size:=(zuH.1 x5).1;obtain⟨gN,hgN⟩:∃gN,W1.heap.size=gN:=⟨_,rfl⟩;have same0:∀k,k<w.heap.size->W0.heap[k]?=w.heap[k]?:=fun k hk=>(hb0.block k (by omega)).trans (hb1.block k hk)
  rw[hgN] at x5 yN hzl hw1 ⊢;have C0:=C.keep (w':=W0) (fun k hk=>same0 k (zvL hk C.le)) (by have:=C.le;omega);have y1s:zar W0 nw (gx i) (Ts i):=⟨(same0 _ (h.set i hi).glt).trans (h.set i hi).row,(h.set i hi).lt⟩;have hgl:=(h.set i hi).glt;have HX:Hid (hl=hl):=rfl;clear HX hl Hl hno hb2 hz2 hg2 hW0
  rename_i K hKc
  refine zct (by omega) (gf:=165) (fb:=#[.slice (some ⟨gx i,0,none⟩) nw nw]) (lb:=#[]) rfl (enters_of Tryz.func165 (by kernel_rfl) rfl)
   (T:=[0,gx i]) (by intro k hk;simp at hk;have:=C.pos;have:=C.le;omega)
   (zcC 4 nw (gx i) nw (Ts i) (by omega) C.nwl W0 y1s C0.bru) (fun _=>rfl)
   (fun pre W=>zam (fun k=>k=gN) W0 W/\∃U,zar W nw gN U/\∀q,zai U q=true↔∃p,p∈zco pre/\zai (Lk p) q=true)
   (fun _ _ _=>False)
   (fun s A B hs ht=>⟨hs.1.turn ht,by obtain⟨U,h1,h2⟩:=hs.2;exact⟨U,⟨ht.same _ _ h1.row (.inr rfl),h1.lt⟩,h2⟩⟩)
   (fun c s A B hs ht=>hs)
   ⟨zam.refl _ _,za0,yN,fun q=>by rw[zcg];simp[zco]⟩
   (fun x=>{tmps:=#[.pointer (some ⟨r,0,none⟩),.int .i64 i,.int .u8 c,.bool false,.pointer (some ⟨w.heap.size,0,none⟩),undef,undef,undef,.int .i64 0,.int .i64 (2*(256*(i:Int)+(c:Int))),.int .i64 0,.bool false,.pointer (some ⟨w2.heap.size,0,none⟩),.int .i64 (x.1:Int),.int .i64 i,.int .i64 (256*(i:Int)),.int .u8 c,.int .i64 c,.int .i64 (256*(i:Int)+(c:Int)),.int .i64 (2*(256*(i:Int)+(c:Int))),.bool false,undef,undef,.tuple #[.int .i64 0,.bool false],.pointer (some ⟨r,0,none⟩),.pointer (some ⟨r,0,none⟩),.pointer (some ⟨r,7,none⟩),.map (some gv),.int .i64 (2*(256*(i:Int)+(c:Int))),.tuple #[.int .i64 0,.bool false],.int .i64 0,.bool false,.bool false,undef,.pointer (some ⟨r,0,none⟩),.pointer (some ⟨r,0,none⟩),.pointer (some ⟨r,0,none⟩),.pointer (some ⟨bt,0,none⟩),.slice (some ⟨gN,0,none⟩) nw nw,.pointer (some ⟨r,0,none⟩),.pointer (some ⟨r,0,none⟩),.pointer (some ⟨r,5,none⟩),.slice (some ⟨gS,0,none⟩) m cS,.int .i64 i,.pointer (some ⟨gS,i,none⟩),.slice (some ⟨gx i,0,none⟩) nw nw,.func (.func 165) #[.slice (some ⟨gx i,0,none⟩) nw nw] #[],.int .i64 (x.1:Int),undef,undef,undef,undef,undef,undef,undef,undef,undef,undef,undef,undef,undef,undef,undef,undef,undef,undef,undef,undef,undef,undef,undef,undef,undef,undef,undef,undef,undef,undef,undef,undef],defers:=[]})
   ?assign ?body ?done ?stop
  case assign=>
   intro l x W K hK
   gi_wp2
   exact hK
  case stop=>
   rintro D c pre W hD _ hf;exact hf.elim
  case body=>
   rintro l pre ⟨x,hx⟩ W hl ⟨ht,U,hU,hUb⟩ hlen;have hxn:=hS i x hi hx.1 hx.2;obtain⟨gf,cf,rfl,hgf,hfv⟩:=C0.lvs (by omega);have hCle:=C.le;have hlr:=(C0.lrs x hxn).2;have cell:∀d o,d<W0.heap.size->d≠gN->W.cell? ⟨d,o,none⟩=W0.cell? ⟨d,o,none⟩:=fun d o h1 h2=>World.cell?_of_block (ht.same d h1 h2)
   have z3:=(cell w.heap.size 0 (by omega) (by omega)).trans z0;have z5:W.cell? ⟨w2.heap.size,0,none⟩=some (.slice (some ⟨gN,0,none⟩) nw nw):=(cell w2.heap.size 0 hsz (by omega)).trans (zvW _ _ _ _ _ _ x5:_=_);have zb:=(cell r 1 (by omega) (by omega)).trans y1;have zf:=(cell gf x (by omega) (by omega)).trans (hfv x hxn);have hfr:=((C0.lrs x hxn).1).touch ht (by omega);have hj:=zdn nw gN (lr x) nw nw U (Lk x) W.drew ⟨hU.row,hU.lt⟩ ⟨hfr.row,hfr.lt⟩ (by omega) C.nwl;have hx0:(0:Int)<=(x:Int):=by omega
   have hx1:(x:Int)<(n:Int):=by omega
   have hmix:Tryz.prog.follows .mixedOrders=true:=by kernel_rfl
   dsimp only
   gi_wp2
   gi_region_with_o (refine⟨trivial,?_⟩;gi_at_call 168;refine(CallsIn.inRound l (callsIn_wide.2 hj)).mono ?_;rintro e w' ⟨rfl,hp',hg'⟩)
   all_goals
    gi_wp2
    refine⟨KeepsFrom.of_grownBy (W:=W) (row:=some gN) ⟨hg'.os,hg'.tape,hg'.output,hg'.size,hg'.block⟩ (fun j e=>by cases e;omega),fun k hk=>?_,ht.grown (A:=W) (o:=some gN) ⟨hg'.os,hg'.tape,hg'.output,hg'.size,hg'.block⟩ (fun g e=>by cases e;exact .inl rfl),orT U (Lk x),hp',fun q=>?_⟩
    ·refine hg'.block k ?_ (fun e=>?_)
     ·have:=ht.size;simp at hk;show k<W.heap.size;omega
     ·have e':k=gN:=by simpa using e
      simp at hk;omega
    ·rw[zfO,zb6,zuM,hUb];constructor
     ·rintro (⟨p,h3,h4⟩|h3)
      ·exact⟨p,zvo.2 (.inl h3),h4⟩
      ·exact⟨x,by simp,h3⟩
     ·rintro ⟨p,h3,h4⟩;rcases zvo.1 h3 with h3|h3
      ·exact .inl ⟨p,h3,h4⟩
      ·exact .inr (by rw[zvv.1 h3] at h4;exact h4)
  case done=>
   rintro D ys W hD hys ⟨ht,U,hU,hUb⟩ hK;have hCle:=C.le;have cell:∀d o,d<W0.heap.size->d≠gN->W.cell? ⟨d,o,none⟩=W0.cell? ⟨d,o,none⟩:=fun d o h1 h2=>World.cell?_of_block (ht.same d h1 h2)
   have z3:=(cell w.heap.size 0 (by omega) (by omega)).trans z0;have z5:W.cell? ⟨w2.heap.size,0,none⟩=some (.slice (some ⟨gN,0,none⟩) nw nw):=(cell w2.heap.size 0 hsz (by omega)).trans (zvW _ _ _ _ _ _ x5:_=_);have zr0:=(cell r 0 (by omega) (by omega)).trans y0;have zr2:=(cell r 2 (by omega) (by omega)).trans y2;have sameW:∀k,k<w.heap.size->W.heap[k]?=w.heap[k]?:=fun k hk=>(ht.same k (by omega) (by omega)).trans (same0 k hk)
   have hsW:W0.heap.size<=W.heap.size:=ht.size;have hUq:∀q,zai U q=true↔∃p,p<64*nw/\zai (Ts i) p=true/\zai (Lk p) q=true:=fun q=>(hUb q).trans ⟨fun⟨p,h3,h4⟩=>⟨p,((hys p).1 h3).1,((hys p).1 h3).2,h4⟩,fun⟨p,h3,h4,h5⟩=>⟨p,(hys p).2 ⟨h3,h4⟩,h5⟩⟩
   have hUn:∀q,q<64*nw->zai U q=true->q<n:=fun q hq h3=>by
    obtain⟨p,h4,h5,h6⟩:=(hUq q).1 h3;exact C.lb p q (hS i p hi h4 h5) hq h6
   have CW:=C.keep (w':=W) (fun k hk=>sameW k (zvL hk C.le)) (by omega);have hmix:Tryz.prog.follows .mixedOrders=true:=by kernel_rfl
   have hcode:zca i c false=2*(256*(i:Int)+(c:Int)):=by unfold zca;simp
   have gvl:gv<w.heap.size:=(hO gv h.ov).2;obtain⟨X,hX⟩:∃X,W.drew=X:=⟨_,rfl⟩;have Xos:X.os=w.os:=by rw[<-hX];exact(show W.os=_ from ht.os).trans (hb0.os.trans hb1.os)
   have Xtp:X.tape=w.tape:=by rw[<-hX];exact(show W.tape=_ from ht.tape).trans (hb0.tape.trans hb1.tape)
   have Xop:X.output=w.output:=by rw[<-hX];exact(show W.output=_ from ht.output).trans (hb0.output.trans hb1.output)
   have Xsz:w.heap.size<=X.heap.size:=by rw[<-hX];show _<=W.heap.size;omega
   have Xsame:∀k,k<w.heap.size->X.heap[k]?=w.heap[k]?:=by rw[<-hX];exact sameW
   have Xn:∀q,q<64*nw->zai U q=true->q<n:=hUn;have Xq:∀q,q<64*nw->(zai U q=true↔(∃p,p<64*nw/\zai (Ts i) p=true/\zai (Lk p) q=true)\/(false=true/\zai A q=true)):=fun q _=>(hUq q).trans ⟨.inl,fun h=>h.elim id fun h=>by cases h.1⟩
   have htk:=zkR n nw bt gN nw c sv fv mk f U W.drew CW.box (fun hn=>by obtain⟨gs,cs,e1,e2,e3⟩:=CW.svs hn;exact⟨gs,cs,e1,by show gs<W.heap.size;omega,e3⟩) (fun p hp=>(CW.mks p hp).1) ⟨hU.row,hU.lt⟩ hUn CW.nwl hc CW.bru (by show 0<W.heap.size;omega);rw[hX] at htk;have hnumr:=fun(w5:World) (g4:Nat) (U4:Nat->Nat) (hb:Below X.heap.size X w5) (hg4:X.heap.size<=g4) (hp:zar w5 nw g4 U4) (hbits:∀q,zai U4 q=true↔q<64*nw/\zai U q=true/\f q c=true)=>zkw C h hM hS (b:=false) hi hc hm hk (w5:=w5) (hb.os.trans Xos) (hb.tape.trans Xtp) (hb.output.trans Xop) (zvK Xsz hb.size) (fun k hk=>(hb.block k (zvL hk Xsz)).trans (Xsame k hk)) (g4:=g4) (U4:=U4) (zvK Xsz hg4) hp (fun q hq=>Xn q ((hbits q).1 hq).1 ((hbits q).1 hq).2.1) (fun q hq=>by
    rw[hbits q];constructor
    ·rintro ⟨_,h3,h4⟩;exact⟨h4,(Xq q hq).1 h3⟩
    ·rintro ⟨h3,h4⟩;exact⟨hq,(Xq q hq).2 h4,h3⟩)
   simp only[hcode] at hnumr;have Hno:Hid (∀k,O k->k<w.heap.size):=fun k hk=>(hO k hk).2
   have Hh:Hid (hnumr=hnumr):=rfl;clear Hh h hM hS hO C C0 CW HW hUb hys hU h1 cS1 hgS hcur b0 b1 b2 b3 b4 b5 b6 b7 c0 x0 y0 y1 y2 y5 y7 z0 yN y1s hmc hdk hcode;have X3:X.cell? ⟨w.heap.size,0,none⟩=some (.pointer (some ⟨r,0,none⟩)):=by rw[<-hX];exact z3
   have X5:X.cell? ⟨w2.heap.size,0,none⟩=some (.slice (some ⟨gN,0,none⟩) nw nw):=by rw[<-hX];exact z5
   have X0:X.cell? ⟨r,0,none⟩=some (.pointer (some ⟨bt,0,none⟩)):=by rw[<-hX];exact zr0
   have XD:X.heap[D]?=some (.deferred (some [])):=by rw[<-hX];exact hK
   have XDl:D<X.heap.size:=(zuH.1 XD).1;have Xwl:w.heap.size<X.heap.size:=by rw[<-hX];show _<W.heap.size;omega
   have Xw2:w2.heap.size<X.heap.size:=by rw[<-hX];show _<W.heap.size;omega
   have Xr:r<X.heap.size:=by omega
   have hw2g:w.heap.size<=w2.heap.size:=by omega
   have hDw:w.heap.size<=D:=by omega
   have HXD:Hid _:=XD;refine hKc _ _ (wpIn_wide.2 ?_);dsimp only;clear hKc XD hK ht sameW hUq hUn Xos Xtp Xop Xsame Xn Xq cell same0
   go_wp2_with fail
   go_region_held3 (fun w'=>w'.cell? ⟨w.heap.size,0,none⟩=some (.pointer (some ⟨r,0,none⟩))/\w'.cell? ⟨w2.heap.size,0,none⟩=some (.slice (some ⟨gN,0,none⟩) nw nw)/\w'.cell? ⟨r,0,none⟩=some (.pointer (some ⟨bt,0,none⟩))) ((first|exact⟨X3,X5,X0⟩|exact⟨z3,z5,zr0⟩|exact⟨q3,q5,q0⟩|exact⟨p3,p5,p0⟩|go_keep)) ((first|(go_at_call 170;refine htk.mono ?_;rintro e w5 ⟨g4,U4,rfl,hg4,hp4,hb4,hbel5⟩;have q3:=(hbel5.cell (p:=⟨w.heap.size,0,none⟩) Xwl).trans X3;have q5:=(hbel5.cell (p:=⟨w2.heap.size,0,none⟩) Xw2).trans X5;have q0:=(hbel5.cell (p:=⟨r,0,none⟩) Xr).trans X0)|(go_at_call 169;refine(hnumr w5 g4 U4 hbel5 hg4 hp4 hb4).mono ?_;rintro e w6 ⟨t,W7,rfl,tc6,zm6,p0,hput,h7o,HR⟩;have p3:w6.cell? ⟨w.heap.size,0,none⟩=some (.pointer (some ⟨r,0,none⟩)):=(World.cell?_of_block (tc6.same w.heap.size (by have:=hbel5.size;omega) (fun e=>by have:=Hno.out _ e;omega))).trans q3;have p5:w6.cell? ⟨w2.heap.size,0,none⟩=some (.slice (some ⟨gN,0,none⟩) nw nw):=(World.cell?_of_block (tc6.same w2.heap.size (by have:=hbel5.size;omega) (fun e=>by have:=Hno.out _ e;omega))).trans q5)))
   all_goals
    have hK7:W7.heap[D]?=some (.deferred (some [])):=by
     rw[h7o D (by omega),tc6.same D (by have:=hbel5.size;omega) (fun e=>by have:=Hno.out _ e;omega),hbel5.block D XDl];exact HXD.out
    have HRD:=HR.out D hDw hK7;have Hfin:Hid _:=HRD;clear HRD HR hnumr htk;go_wp2;refine⟨by simp,.inl ⟨_,_,rfl,run_takeDeferred hK7,?_⟩⟩;exact⟨.int .i64 t,by simp[results,Tryz.results147,go_sem],Hfin.out⟩
 ·simp only[if_true] at hl
  gi_wp2_with (refine⟨trivial,?_⟩;gi_at_call 164;refine(callsIn_wide.2 hno).mono ?_;rintro e w2 ⟨rfl,hz2,hg2⟩;have hb2:Below W1.heap.size W1 w2:=⟨hg2.os,hg2.tape,hg2.output,hg2.size,fun k hk=>hg2.block k hk (by simp)⟩;obtain⟨W0,hW0⟩:∃W0,w2.alloc (.cells #[.slice (some ⟨W1.heap.size,0,none⟩) nw nw] 193)=W0:=⟨_,rfl⟩;have hb0:Below W1.heap.size W1 W0:=(by rw[<-hW0];exact hb2.alloc hb2.size _);obtain⟨z0,⟨y0,y1,y2,y5,y7⟩,x0⟩:=HW W0 hb0)
  have x5:W0.heap[w2.heap.size]?=some (.cells #[.slice (some ⟨W1.heap.size,0,none⟩) nw nw] 193 (0,0)):=by rw[<-hW0];exact zvZ _ _
  have yN:zar W0 nw W1.heap.size za0:=by rw[<-hW0];exact⟨zak hz2.row,hz2.lt⟩
  have hzl:=hz2.glt;have hw1:w.heap.size<W1.heap.size:=(zuH.1 k0).1;have hsz:w2.heap.size<W0.heap.size:=(zuH.1 x5).1;obtain⟨gN,hgN⟩:∃gN,W1.heap.size=gN:=⟨_,rfl⟩;have same0:∀k,k<w.heap.size->W0.heap[k]?=w.heap[k]?:=fun k hk=>(hb0.block k (by omega)).trans (hb1.block k hk)
  rw[hgN] at x5 yN hzl hw1 ⊢;have C0:=C.keep (w':=W0) (fun k hk=>same0 k (zvL hk C.le)) (by have:=C.le;omega);have y1s:zar W0 nw (gx i) (Ts i):=⟨(same0 _ (h.set i hi).glt).trans (h.set i hi).row,(h.set i hi).lt⟩;have hgl:=(h.set i hi).glt;have HX:Hid (hl=hl):=rfl;clear HX hl Hl hno hb2 hz2 hg2 hW0
  rename_i K hKc
  refine zct (by omega) (gf:=165) (fb:=#[.slice (some ⟨gx i,0,none⟩) nw nw]) (lb:=#[]) rfl (enters_of Tryz.func165 (by kernel_rfl) rfl)
   (T:=[0,gx i]) (by intro k hk;simp at hk;have:=C.pos;have:=C.le;omega)
   (zcC 4 nw (gx i) nw (Ts i) (by omega) C.nwl W0 y1s C0.bru) (fun _=>rfl)
   (fun pre W=>zam (fun k=>k=gN) W0 W/\∃U,zar W nw gN U/\∀q,zai U q=true↔∃p,p∈zco pre/\zai (Lk p) q=true)
   (fun _ _ _=>False)
   (fun s A B hs ht=>⟨hs.1.turn ht,by obtain⟨U,h1,h2⟩:=hs.2;exact⟨U,⟨ht.same _ _ h1.row (.inr rfl),h1.lt⟩,h2⟩⟩)
   (fun c s A B hs ht=>hs)
   ⟨zam.refl _ _,za0,yN,fun q=>by rw[zcg];simp[zco]⟩
   (fun x=>{tmps:=#[.pointer (some ⟨r,0,none⟩),.int .i64 i,.int .u8 c,.bool true,.pointer (some ⟨w.heap.size,0,none⟩),undef,undef,undef,.int .i64 0,.int .i64 (2*(256*(i:Int)+(c:Int))+1),.int .i64 0,.bool false,.pointer (some ⟨w2.heap.size,0,none⟩),.int .i64 (x.1:Int),.int .i64 i,.int .i64 (256*(i:Int)),.int .u8 c,.int .i64 c,.int .i64 (256*(i:Int)+(c:Int)),.int .i64 (2*(256*(i:Int)+(c:Int))),.bool true,.int .i64 (2*(256*(i:Int)+(c:Int))),.int .i64 (2*(256*(i:Int)+(c:Int))+1),.tuple #[.int .i64 0,.bool false],.pointer (some ⟨r,0,none⟩),.pointer (some ⟨r,0,none⟩),.pointer (some ⟨r,7,none⟩),.map (some gv),.int .i64 (2*(256*(i:Int)+(c:Int))+1),.tuple #[.int .i64 0,.bool false],.int .i64 0,.bool false,.bool false,undef,.pointer (some ⟨r,0,none⟩),.pointer (some ⟨r,0,none⟩),.pointer (some ⟨r,0,none⟩),.pointer (some ⟨bt,0,none⟩),.slice (some ⟨gN,0,none⟩) nw nw,.pointer (some ⟨r,0,none⟩),.pointer (some ⟨r,0,none⟩),.pointer (some ⟨r,5,none⟩),.slice (some ⟨gS,0,none⟩) m cS,.int .i64 i,.pointer (some ⟨gS,i,none⟩),.slice (some ⟨gx i,0,none⟩) nw nw,.func (.func 165) #[.slice (some ⟨gx i,0,none⟩) nw nw] #[],.int .i64 (x.1:Int),undef,undef,undef,undef,undef,undef,undef,undef,undef,undef,undef,undef,undef,undef,undef,undef,undef,undef,undef,undef,undef,undef,undef,undef,undef,undef,undef,undef,undef,undef,undef,undef],defers:=[]})
   ?assign ?body ?done ?stop
  case assign=>
   intro l x W K hK
   gi_wp2
   exact hK
  case stop=>
   rintro D c pre W hD _ hf;exact hf.elim
  case body=>
   rintro l pre ⟨x,hx⟩ W hl ⟨ht,U,hU,hUb⟩ hlen;have hxn:=hS i x hi hx.1 hx.2;obtain⟨gf,cf,rfl,hgf,hfv⟩:=C0.lvs (by omega);have hCle:=C.le;have hlr:=(C0.lrs x hxn).2;have cell:∀d o,d<W0.heap.size->d≠gN->W.cell? ⟨d,o,none⟩=W0.cell? ⟨d,o,none⟩:=fun d o h1 h2=>World.cell?_of_block (ht.same d h1 h2)
   have z3:=(cell w.heap.size 0 (by omega) (by omega)).trans z0;have z5:W.cell? ⟨w2.heap.size,0,none⟩=some (.slice (some ⟨gN,0,none⟩) nw nw):=(cell w2.heap.size 0 hsz (by omega)).trans (zvW _ _ _ _ _ _ x5:_=_);have zb:=(cell r 1 (by omega) (by omega)).trans y1;have zf:=(cell gf x (by omega) (by omega)).trans (hfv x hxn);have hfr:=((C0.lrs x hxn).1).touch ht (by omega);have hj:=zdn nw gN (lr x) nw nw U (Lk x) W.drew ⟨hU.row,hU.lt⟩ ⟨hfr.row,hfr.lt⟩ (by omega) C.nwl;have hx0:(0:Int)<=(x:Int):=by omega
   have hx1:(x:Int)<(n:Int):=by omega
   have hmix:Tryz.prog.follows .mixedOrders=true:=by kernel_rfl
   dsimp only
   gi_wp2
   gi_region_with_o (refine⟨trivial,?_⟩;gi_at_call 168;refine(CallsIn.inRound l (callsIn_wide.2 hj)).mono ?_;rintro e w' ⟨rfl,hp',hg'⟩)
   all_goals
    gi_wp2
    refine⟨KeepsFrom.of_grownBy (W:=W) (row:=some gN) ⟨hg'.os,hg'.tape,hg'.output,hg'.size,hg'.block⟩ (fun j e=>by cases e;omega),fun k hk=>?_,ht.grown (A:=W) (o:=some gN) ⟨hg'.os,hg'.tape,hg'.output,hg'.size,hg'.block⟩ (fun g e=>by cases e;exact .inl rfl),orT U (Lk x),hp',fun q=>?_⟩
    ·refine hg'.block k ?_ (fun e=>?_)
     ·have:=ht.size;simp at hk;show k<W.heap.size;omega
     ·have e':k=gN:=by simpa using e
      simp at hk;omega
    ·rw[zfO,zb6,zuM,hUb];constructor
     ·rintro (⟨p,h3,h4⟩|h3)
      ·exact⟨p,zvo.2 (.inl h3),h4⟩
      ·exact⟨x,by simp,h3⟩
     ·rintro ⟨p,h3,h4⟩;rcases zvo.1 h3 with h3|h3
      ·exact .inl ⟨p,h3,h4⟩
      ·exact .inr (by rw[zvv.1 h3] at h4;exact h4)
  case done=>
   rintro D ys W hD hys ⟨ht,U,hU,hUb⟩ hK;have hCle:=C.le;have cell:∀d o,d<W0.heap.size->d≠gN->W.cell? ⟨d,o,none⟩=W0.cell? ⟨d,o,none⟩:=fun d o h1 h2=>World.cell?_of_block (ht.same d h1 h2)
   have z3:=(cell w.heap.size 0 (by omega) (by omega)).trans z0;have z5:W.cell? ⟨w2.heap.size,0,none⟩=some (.slice (some ⟨gN,0,none⟩) nw nw):=(cell w2.heap.size 0 hsz (by omega)).trans (zvW _ _ _ _ _ _ x5:_=_);have zr0:=(cell r 0 (by omega) (by omega)).trans y0;have zr2:=(cell r 2 (by omega) (by omega)).trans y2;have sameW:∀k,k<w.heap.size->W.heap[k]?=w.heap[k]?:=fun k hk=>(ht.same k (by omega) (by omega)).trans (same0 k hk)
   have hsW:W0.heap.size<=W.heap.size:=ht.size;have hUq:∀q,zai U q=true↔∃p,p<64*nw/\zai (Ts i) p=true/\zai (Lk p) q=true:=fun q=>(hUb q).trans ⟨fun⟨p,h3,h4⟩=>⟨p,((hys p).1 h3).1,((hys p).1 h3).2,h4⟩,fun⟨p,h3,h4,h5⟩=>⟨p,(hys p).2 ⟨h3,h4⟩,h5⟩⟩
   have hUn:∀q,q<64*nw->zai U q=true->q<n:=fun q hq h3=>by
    obtain⟨p,h4,h5,h6⟩:=(hUq q).1 h3;exact C.lb p q (hS i p hi h4 h5) hq h6
   have CW:=C.keep (w':=W) (fun k hk=>sameW k (zvL hk C.le)) (by omega);have hmix:Tryz.prog.follows .mixedOrders=true:=by kernel_rfl
   have hcode:zca i c true=2*(256*(i:Int)+(c:Int))+1:=by unfold zca;simp
   have gvl:gv<w.heap.size:=(hO gv h.ov).2;have hj:=zdn nw gN ga nw nw U A W.drew ⟨hU.row,hU.lt⟩ ⟨CW.pa.1.row,CW.pa.1.lt⟩ (by have:=C.pa.2;omega) C.nwl;have hgNW:gN<W.heap.size:=hU.glt;refine hKc _ _ (wpIn_wide.2 ?_);dsimp only;have Hht:Hid _:=ht;have HsW:Hid _:=sameW;have HhK:Hid _:=hK;clear ht sameW hK hKc cell
   go_wp2_with fail
   go_region_held3 (fun w'=>w'.cell? ⟨w.heap.size,0,none⟩=some (.pointer (some ⟨r,0,none⟩))/\w'.cell? ⟨w2.heap.size,0,none⟩=some (.slice (some ⟨gN,0,none⟩) nw nw)/\w'.cell? ⟨r,2,none⟩=some (.slice (some ⟨ga,0,none⟩) nw nw)) ((first|exact⟨z3,z5,zr2⟩|exact⟨n3,n5,n2⟩|go_keep)) ((go_at_call 168;refine hj.mono ?_;rintro e w3 ⟨rfl,hp3,hg3⟩;have n3:=(show w3.cell? ⟨w.heap.size,0,none⟩=W.cell? ⟨w.heap.size,0,none⟩ from World.cell?_of_block (hg3.block (w.heap.size) (by show w.heap.size<W.heap.size;omega) (by intro e;have e:w.heap.size=gN:=Option.some.inj e;omega))).trans z3;have n5:=(show w3.cell? ⟨w2.heap.size,0,none⟩=W.cell? ⟨w2.heap.size,0,none⟩ from World.cell?_of_block (hg3.block (w2.heap.size) (by show w2.heap.size<W.heap.size;omega) (by intro e;have e:w2.heap.size=gN:=Option.some.inj e;omega))).trans z5;have n2:=(show w3.cell? ⟨r,2,none⟩=W.cell? ⟨r,2,none⟩ from World.cell?_of_block (hg3.block r (by show r<W.heap.size;omega) (by intro e;have e:r=gN:=Option.some.inj e;omega))).trans zr2))
   have n0:=(show w3.cell? ⟨r,0,none⟩=W.cell? ⟨r,0,none⟩ from World.cell?_of_block (hg3.block r (by show r<W.heap.size;omega) (by intro e;have e:r=gN:=Option.some.inj e;omega))).trans zr0;have hs3:W.heap.size<=w3.heap.size:=hg3.size;have same3:∀k,k<w.heap.size->w3.heap[k]?=w.heap[k]?:=fun k hk=>(hg3.block k (by show k<W.heap.size;omega) (by intro e;have e:k=gN:=Option.some.inj e;omega)).trans (HsW.out k hk)
   have K3:w3.heap[D]?=some (.deferred (some [])):=(hg3.block D (zuH.1 HhK.out).1 (by intro e;have e:D=gN:=Option.some.inj e;omega)).trans HhK.out;have ht:=Hht.out;have CW3:=C.keep (w':=w3) (fun k hk=>same3 k (zvL hk C.le)) (by omega);obtain⟨X,hX⟩:∃X,w3.drew=X:=⟨_,rfl⟩;have Xos:X.os=w.os:=by rw[<-hX];exact(show w3.os=_ from hg3.os).trans ((show W.os=_ from ht.os).trans (hb0.os.trans hb1.os))
   have Xtp:X.tape=w.tape:=by rw[<-hX];exact(show w3.tape=_ from hg3.tape).trans ((show W.tape=_ from ht.tape).trans (hb0.tape.trans hb1.tape))
   have Xop:X.output=w.output:=by rw[<-hX];exact(show w3.output=_ from hg3.output).trans ((show W.output=_ from ht.output).trans (hb0.output.trans hb1.output))
   have Xsz:w.heap.size<=X.heap.size:=by rw[<-hX];show _<=w3.heap.size;omega
   have Xsame:∀k,k<w.heap.size->X.heap[k]?=w.heap[k]?:=by rw[<-hX];exact same3
   have Xn:∀q,q<64*nw->zai (orT U A) q=true->q<n:=fun q hq h3=>by
    rw[zfO,zuM] at h3;exact h3.elim (hUn q hq) (C.ab q hq)
   have Xq:∀q,q<64*nw->(zai (orT U A) q=true↔(∃p,p<64*nw/\zai (Ts i) p=true/\zai (Lk p) q=true)\/(true=true/\zai A q=true)):=fun q _=>by
    rw[zfO,zuM,hUq];exact or_congr Iff.rfl ⟨fun h=>⟨rfl,h⟩,fun h=>h.2⟩
   have htk:=zkR n nw bt gN nw c sv fv mk f (orT U A) w3.drew CW3.box (fun hn=>by obtain⟨gs,cs,e1,e2,e3⟩:=CW3.svs hn;exact⟨gs,cs,e1,by show gs<w3.heap.size;omega,e3⟩) (fun p hp=>(CW3.mks p hp).1) ⟨hp3.row,hp3.lt⟩ Xn CW3.nwl hc CW3.bru (by show 0<w3.heap.size;omega);rw[hX] at htk;have hnumr:=fun(w5:World) (g4:Nat) (U4:Nat->Nat) (hb:Below X.heap.size X w5) (hg4:X.heap.size<=g4) (hp:zar w5 nw g4 U4) (hbits:∀q,zai U4 q=true↔q<64*nw/\zai (orT U A) q=true/\f q c=true)=>zkw C h hM hS (b:=true) hi hc hm hk (w5:=w5) (hb.os.trans Xos) (hb.tape.trans Xtp) (hb.output.trans Xop) (zvK Xsz hb.size) (fun k hk=>(hb.block k (zvL hk Xsz)).trans (Xsame k hk)) (g4:=g4) (U4:=U4) (zvK Xsz hg4) hp (fun q hq=>Xn q ((hbits q).1 hq).1 ((hbits q).1 hq).2.1) (fun q hq=>by
    rw[hbits q];constructor
    ·rintro ⟨_,h3,h4⟩;exact⟨h4,(Xq q hq).1 h3⟩
    ·rintro ⟨h3,h4⟩;exact⟨hq,(Xq q hq).2 h4,h3⟩)
   simp only[hcode] at hnumr;have Hno:Hid (∀k,O k->k<w.heap.size):=fun k hk=>(hO k hk).2
   have Hh:Hid (hnumr=hnumr):=rfl;clear Hh h hM hS hO C C0 CW CW3 HW hUb hys hU h1 cS1 hgS hcur b0 b1 b2 b3 b4 b5 b6 b7 c0 x0 y0 y1 y2 y5 y7 z0 yN y1s hmc hdk hcode;have X3:X.cell? ⟨w.heap.size,0,none⟩=some (.pointer (some ⟨r,0,none⟩)):=by rw[<-hX];exact n3
   have X5:X.cell? ⟨w2.heap.size,0,none⟩=some (.slice (some ⟨gN,0,none⟩) nw nw):=by rw[<-hX];exact n5
   have X0:X.cell? ⟨r,0,none⟩=some (.pointer (some ⟨bt,0,none⟩)):=by rw[<-hX];exact n0
   have XD:X.heap[D]?=some (.deferred (some [])):=by rw[<-hX];exact K3
   have XDl:D<X.heap.size:=(zuH.1 XD).1;have Xwl:w.heap.size<X.heap.size:=by rw[<-hX];show _<w3.heap.size;omega
   have Xw2:w2.heap.size<X.heap.size:=by rw[<-hX];show _<w3.heap.size;omega
   have Xr:r<X.heap.size:=by omega
   have hw2g:w.heap.size<=w2.heap.size:=by omega
   have hDw:w.heap.size<=D:=by omega
   have HXD:Hid _:=XD;clear XD HhK ht HsW Hht K3 same3 hUq hUn Xos Xtp Xop Xsame Xn Xq same0 hj hp3 hg3
   go_wp2_with fail
   go_region_held3 (fun w'=>w'.cell? ⟨w.heap.size,0,none⟩=some (.pointer (some ⟨r,0,none⟩))/\w'.cell? ⟨w2.heap.size,0,none⟩=some (.slice (some ⟨gN,0,none⟩) nw nw)/\w'.cell? ⟨r,0,none⟩=some (.pointer (some ⟨bt,0,none⟩))) ((first|exact⟨X3,X5,X0⟩|exact⟨n3,n5,n0⟩|exact⟨q3,q5,q0⟩|exact⟨p3,p5,p0⟩|go_keep)) ((first|(go_at_call 170;refine htk.mono ?_;rintro e w5 ⟨g4,U4,rfl,hg4,hp4,hb4,hbel5⟩;have q3:=(hbel5.cell (p:=⟨w.heap.size,0,none⟩) Xwl).trans X3;have q5:=(hbel5.cell (p:=⟨w2.heap.size,0,none⟩) Xw2).trans X5;have q0:=(hbel5.cell (p:=⟨r,0,none⟩) Xr).trans X0)|(go_at_call 169;refine(hnumr w5 g4 U4 hbel5 hg4 hp4 hb4).mono ?_;rintro e w6 ⟨t,W7,rfl,tc6,zm6,p0,hput,h7o,HR⟩;have p3:w6.cell? ⟨w.heap.size,0,none⟩=some (.pointer (some ⟨r,0,none⟩)):=(World.cell?_of_block (tc6.same w.heap.size (by have:=hbel5.size;omega) (fun e=>by have:=Hno.out _ e;omega))).trans q3;have p5:w6.cell? ⟨w2.heap.size,0,none⟩=some (.slice (some ⟨gN,0,none⟩) nw nw):=(World.cell?_of_block (tc6.same w2.heap.size (by have:=hbel5.size;omega) (fun e=>by have:=Hno.out _ e;omega))).trans q5)))
   all_goals
    have hK7:W7.heap[D]?=some (.deferred (some [])):=by
     rw[h7o D (by omega),tc6.same D (by have:=hbel5.size;omega) (fun e=>by have:=Hno.out _ e;omega),hbel5.block D XDl];exact HXD.out
    have HRD:=HR.out D hDw hK7;have Hfin:Hid _:=HRD;clear HRD HR hnumr htk;go_wp2;refine⟨by simp,.inl ⟨_,_,rfl,run_takeDeferred hK7,?_⟩⟩;exact⟨.int .i64 t,by simp[results,Tryz.results147,go_sem],Hfin.out⟩
end
section
open Go.RowKit
attribute [local go_sem ↓] Go.wp_at_zero Go.wp_at_succ
theorem ztA{B:Nat}{O:Nat->Prop}{w:World}{n r nw bt ga gl:Nat}{lv sv fv:Value}{lr mk:Nat->Nat}{Lk:Nat->Nat->Nat}{A L:Nat->Nat}{f:Nat->Nat->Bool}{gm gv:Nat}{sS sP:Value}{gx:Nat->Nat}{Ts:Nat->Nat->Nat}{m:Nat}{es:List (Int×Int)}(C:StC B w n nw bt ga gl lv sv fv lr mk Lk A L f)(hO:∀k,O k->B<=k/\k<w.heap.size)(h:RdS O w r nw bt ga gl lv L gm gv sS sP gx Ts m es)(hM:MvOk nw f Lk A Ts m es)(hS:zk4 n nw Ts m)(i c:Nat)(b:Bool)(hi:i<m)(hc:c<256)(hm:m<=100000000):
  Calls Tryz.prog 147 #[.pointer (some ⟨r,0,none⟩),.int .i64 i,.int .u8 c,.bool b] w fun e w'=>znn O w n r nw bt ga gl lv f Lk A L gm gv gx Ts m i c b e w':=by
 by_cases hk:zca i c b∈zbp es
 ·refine(zsf h hM hS i c b hc hi hm hk).mono fun e w' hR=>?_
  obtain⟨t,m',sS',sP',gx',Ts',es',h1,h2,h3⟩:=hR;exact⟨t,m',sS',sP',gx',Ts',es',h1,h2,h3⟩
 ·exact zse C hO h hM hS i c b hi hc hm hk
def NewP(w:World)(nw bt ga gl:Nat)(lv:Value)(L:Nat->Nat)(e:Ending)(w':World):Prop:=
 ∃(r gm gv:Nat) (sS sP:Value) (gx:Nat->Nat) (Ts:Nat->Nat->Nat),e=.returned (.pointer (some ⟨r,0,none⟩))/\RdS (fun k=>w.heap.size<=k/\k<w'.heap.size) w' r nw bt ga gl lv L gm gv sS sP gx Ts 1 []/\(∀x,x<nw->Ts 0 x=0)/\Below w.heap.size w w'
theorem zf8(nw bt ga gl ln lc:Nat)(la:Option Addr)(sv fv:Value)(L:Nat->Nat)(w:World)(hbox:zfu w bt nw sv fv)(hL:zar w nw gl L)(hnw:nw<=1000):
  Calls Tryz.prog 161 #[.pointer (some ⟨bt,0,none⟩),.slice la ln lc,.slice (some ⟨ga,0,none⟩) nw nw,.slice (some ⟨gl,0,none⟩) nw nw] w fun e w'=>NewP w nw bt ga gl (.slice la ln lc) L e w':=by
 obtain⟨W1,hW1⟩:∃W1,((w.alloc (.map #[] 0)).alloc (.map #[] 0)).alloc (.cells #[.pointer (some ⟨bt,0,none⟩),.slice la ln lc,.slice (some ⟨ga,0,none⟩) nw nw,.slice (some ⟨gl,0,none⟩) nw nw,.map (some w.heap.size),.slice none 0 0,.slice none 0 0,.map (some (w.heap.size+1))] 234)=W1:=⟨_,rfl⟩;have hb1:Below w.heap.size w W1:=by rw[<-hW1];exact(((Below.refl _ _).alloc (zvJ _) _).alloc (by simp) _).alloc (by simp;omega) _
 have e0:W1.heap[w.heap.size]?=some (.map #[] 0):=by rw[<-hW1];exact zak (zak (zvZ _ _))
 have e1:W1.heap[w.heap.size+1]?=some (.map #[] 0):=by
  rw[<-hW1];have:=zvZ (w.alloc (.map #[] 0)) (.map #[] 0);exact zak (by simpa using this)
 have e2:W1.heap[w.heap.size+1+1]?=some (.cells #[.pointer (some ⟨bt,0,none⟩),.slice la ln lc,.slice (some ⟨ga,0,none⟩) nw nw,.slice (some ⟨gl,0,none⟩) nw nw,.map (some w.heap.size),.slice none 0 0,.slice none 0 0,.map (some (w.heap.size+1))] 234 (0,0)):=by
  rw[<-hW1];have:=zvZ ((w.alloc (.map #[] 0)).alloc (.map #[] 0)) (.cells #[.pointer (some ⟨bt,0,none⟩),.slice la ln lc,.slice (some ⟨ga,0,none⟩) nw nw,.slice (some ⟨gl,0,none⟩) nw nw,.map (some w.heap.size),.slice none 0 0,.slice none 0 0,.map (some (w.heap.size+1))] 234)
  simpa using this
 have hs:w.heap.size+1+1<W1.heap.size:=(zuH.1 e2).1;have hno:=zeO nw bt sv fv W1 ((hb1.block bt (zuH.1 hbox).1).trans hbox) hnw;have hnum:=fun(W:World) (hb:Below W1.heap.size W1 W) (hp:zar W nw W1.heap.size za0)=>zd8 (O:=fun k=>w.heap.size<=k/\k<W1.heap.size) (w:=W) (r:=w.heap.size+1+1) (nw:=nw) (bt:=bt) (ga:=ga) (gl:=gl) (lv:=.slice la ln lc) (L:=L) (gm:=w.heap.size) (gv:=w.heap.size+1) (sS:=.slice none 0 0) (sP:=.slice none 0 0) (gx:=fun _=>0) (Ts:=fun _=>za0) (m:=0) (es:=[])
  ⟨(hb.block _ hs).trans e2,(hb.block _ (by omega)).trans e0,(hb.block _ (by omega)).trans e1,⟨rfl,.inl ⟨rfl,rfl⟩⟩,⟨rfl,.inl ⟨rfl,rfl⟩⟩,fun i hi=>by omega,by omega,⟨by omega,hs⟩,⟨zvJ _,by omega⟩,⟨by omega,by omega⟩,fun k e=>by simp[Value.ownBlock] at e,fun k e=>by simp[Value.ownBlock] at e,fun i hi=>by omega,fun i j hi=>by omega⟩
  W1.heap.size za0 hp ((hL.below hb1).below hb) hnw (by omega)
 clear e0 e1 e2;have hmm:=@run_makeMap Tryz.prog
 go_enter Tryz.func161,Tryz.ntmps161
 go_wp2_with (go_at_call 164;refine hno.mono ?_;rintro e w2 ⟨rfl,hz2,hg2⟩)
 have hb2:Below W1.heap.size W1 w2:=⟨hg2.os,hg2.tape,hg2.output,hg2.size,fun k hk=>hg2.block k hk (by simp)⟩;refine(hnum w2 hb2 hz2).mono ?_;rintro e w3 ⟨i,m',sS',sP',gx',Ts',rfl,hR,hi,hm1,hm2,hold,heq,hnew,tc⟩;have hbel2:=zaa hb1 hb1.size hb2;have Hfin:Hid (NewP w nw bt ga gl (.slice la ln lc) L (.returned (.pointer (some ⟨w.heap.size+1+1,0,none⟩))) w3):=by
  have e1:m'=1:=by omega
  have e0:i=0:=by omega
  subst e1 e0;refine⟨_,_,_,sS',sP',gx',Ts',rfl,hR.lt.mono fun k ⟨ho,hl⟩=>⟨?_,hl⟩,heq,tc.os.trans hbel2.os,tc.tape.trans hbel2.tape,tc.output.trans hbel2.output,zvK hbel2.size tc.size,fun k hk=>?_⟩
  ·have:=hb2.size;rcases ho with ho|ho|ho<;>omega
  ·rw[tc.same k (by have:=hbel2.size;omega) (fun e=>by omega)];exact hbel2.block k hk
 clear hR hold heq hnew tc hnum hno hmm;go_wp2;exact zvV (v:=.pointer (some ⟨w.heap.size+1+1,0,none⟩)) (by simp[results,Tryz.results161,go_sem]) rfl Hfin.out
end
def PA.Tk(M:PA)(L:Word->Prop):Prop:=Good M.tk M.fol M.D M.e M.first M.last L
section
variable {M N:PA} {L K:Word->Prop}
theorem zes(h:M.Tk L)(e:∀u,L u↔K u):M.Tk K:=Good.words h e
theorem zut(h:M.Tk L):M.opt.Tk (fun u=>u=[]\/L u):=Good.opt h
theorem zqK(h:M.Tk L)(dj:∀p,M.D p->¬N.D p):Good (fun p c=>(M.D p/\M.tk p c)\/(N.D p/\N.tk p c)) (fun p q=>(M.D p/\M.fol p q)\/(N.D p/\N.fol p q)) M.D M.e M.first M.last L:=
 (Good.congr h fun p _ hp=>⟨fun k=>k.elim (fun x=>x.2) (fun x=>absurd x.1 (dj p hp)),fun k=>.inl ⟨hp,k⟩⟩).tk fun p _ hp=>⟨fun k=>k.elim (fun x=>x.2) (fun x=>absurd x.1 (dj p hp)),fun k=>.inl ⟨hp,k⟩⟩
theorem zng(h:N.Tk K)(dj:∀p,M.D p->¬N.D p):Good (fun p c=>(M.D p/\M.tk p c)\/(N.D p/\N.tk p c)) (fun p q=>(M.D p/\M.fol p q)\/(N.D p/\N.fol p q)) N.D N.e N.first N.last K:=
 (Good.congr h fun p _ hp=>⟨fun k=>k.elim (fun x=>absurd hp (dj p x.1)) (fun x=>x.2),fun k=>.inr ⟨hp,k⟩⟩).tk fun p _ hp=>⟨fun k=>k.elim (fun x=>absurd hp (dj p x.1)) (fun x=>x.2),fun k=>.inr ⟨hp,k⟩⟩
theorem zus(h:M.Tk L)(k:N.Tk K)(dj:∀p,M.D p->¬N.D p):(M.alt N).Tk (fun u=>L u\/K u):=zrp (zqK h dj) (zng k dj) dj
theorem zqL(h:M.Tk L)(k:N.Tk K)(dj:∀p,M.D p->¬N.D p):(M.seq N).Tk (fun u=>∃x y,u=x++y/\L x/\K y):=zrr (zqK h dj) (zng k dj) dj (fun _ _ _=>Iff.rfl) (fun _=>Iff.rfl) (fun _=>Iff.rfl)
theorem ztM(h:M.Tk L):M.star.Tk (fun u=>∃k,Pow L k u):=zpv h fun _ _ _=>Iff.rfl
end
theorem zuu{f:Nat->PA}{c:Nat}{L:Word->Prop}(hf:∀s,(f s).Tk L)(hD:∀s p,(f s).D p↔s<=p/\p<s+c)(n:Nat):∀j,(upD f c n j).Tk (UpTo L j)
 |0=>zes (zpu _ _ (true=true)) fun u=>⟨fun h=>(zkU L u).1 ⟨h.1,trivial⟩,fun h=>⟨((zkU L u).2 h).1,rfl⟩⟩
 |j+1=>zes (zut (zqL (hf _) (zuu hf hD n j) fun p h1 h2=>by rw[hD] at h1;rw[zoD hD] at h2;omega)) fun u=>zqQ L j u
theorem ztL{f:Nat->PA}{c:Nat}{y:PA}{n s:Nat}{L K:Word->Prop}(hf:∀s,(f s).Tk L)(hD:∀s p,(f s).D p↔s<=p/\p<s+c)(hy:y.Tk K)(hyD:∀p,y.D p↔n<=p/\p<s)(hs:n<=s):∀k,(ahD f c y s k).Tk (znk L K k)
 |0=>zes hy fun u=>znr L K u
 |k+1=>zes (zqL (hf _) (ztL hf hD hy hyD hs k) fun p h1 h2=>by rw[hD] at h1;rw[znp hD hyD hs] at h2;omega) fun u=>znq L K k u
theorem zej:∀(p:Pt),OkP p->∀n,(unD p n).Tk (In p)
 |.set f,_,n=>zrq (fun c=>⟨fun h=>h.2,fun h=>⟨rfl,h⟩⟩) (fun _ h=>h)
 |.seq l r,ho,n=>zqL (zej l ho.1 n) (zej r ho.2 _) fun p h1 h2=>by rw[zde] at h1 h2;omega
 |.alt l r,ho,n=>zus (zej l ho.1 n) (zej r ho.2 _) fun p h1 h2=>by rw[zde] at h1 h2;omega
 |.rep b mn mx,ho,n=>by
  obtain⟨h1,h2,h3⟩:=ho;obtain⟨m,rfl⟩:∃m:Nat,mn=m:=⟨mn.toNat,by omega⟩
  by_cases h:mx=-1
  ·subst h;rw[<-zkx];exact zes (ztL (n:=n) (zej b h1) (zde b) (ztM (zej b h1 n)) (zsO b n) (by omega) m) (zsk b m)
  ·obtain⟨d,rfl⟩:∃d:Nat,mx=((m+d:Nat):Int):=⟨(mx-m).toNat,by omega⟩;rw[<-zky];exact zes (ztL (n:=n) (zej b h1) (zde b) (zuu (zej b h1) (zde b) n d) (zoD (zde b) n d) (by omega) m) (zsl b m d)
 |.grp b _,ho,n=>zej b ho n
theorem zsC(b:Pt)(n:Nat):unD (.rep b 0 (-1)) n=(unD b n).star:=by
 rw[unD,zv3 rfl];rfl
inductive Back (u:Word) (M:PA) (E:Nat->Prop):Nat->Nat->Prop
 |stop (i p:Nat) (c:UInt8):u[i]?=some c->M.tk p c->M.D p->M.last p->E (i+1)->Back u M E i p
 |on (i p q:Nat) (c:UInt8):u[i]?=some c->M.tk p c->M.D p->M.fol p q->Back u M E (i+1) q->Back u M E i p
def Fwd(u:Word)(M:PA)(i j p:Nat):Prop:=i<j/\j<=u.length/\Run M.tk M.fol M.first ((u.drop i).take (j-i)) p
theorem ziB(u:Word){i j:Nat}{c:UInt8}(h:i<=j)(hc:u[j]?=some c):(u.drop i).take (j+1-i)=(u.drop i).take (j-i)++[c]:=by
 have hj:=(zvc.1 hc).1;rw[zed u h (Nat.le_succ j),show j+1-j=1 from by omega,zuV hj];have:u[j]=c:=(zvc.1 hc).2;rw[this]
 rfl
theorem zna(u:Word){i j:Nat}(h:i<j)(hj:j<=u.length):(u.drop i).take (j-i)≠[]:=by
 intro e;have:=congrArg List.length e;simp at this;omega
theorem ziZ{u:Word}{M:PA}{i p:Nat}{c:UInt8}(hc:u[i]?=some c):Fwd u M i (i+1) p↔M.first p/\M.tk p c:=by
 have hj:=(zvc.1 hc).1;unfold Fwd;rw[ziB u (zvJ i) hc,zvR];show i<i+1/\i+1<=u.length/\Run M.tk M.fol M.first [c] p↔_;rw[ztF];exact⟨fun h=>h.2.2,fun h=>⟨by omega,hj,h⟩⟩
theorem ze3{u:Word}{M:PA}{i j q:Nat}{c:UInt8}(hij:i<j)(hc:u[j]?=some c):Fwd u M i (j+1) q↔∃p,Fwd u M i j p/\M.fol p q/\M.tk q c:=by
 have hj:=(zvc.1 hc).1;unfold Fwd;rw[ziB u (Nat.le_of_lt hij) hc,zso (zna u hij (by omega))];constructor
 ·rintro ⟨-,-,p,h1,h2⟩;exact⟨p,⟨hij,by omega,h1⟩,h2⟩
 ·rintro ⟨p,⟨-,-,h1⟩,h2⟩;exact⟨by omega,hj,p,h1,h2⟩
theorem zpq{u:Word}{M:PA}{p:Pt}(h:M.Tk (In p)){i j:Nat}(hij:i<j)(hj:j<=u.length):Lg u p i j↔∃q,Fwd u M i j q/\M.last q:=by
 unfold Lg Fwd;rw[<-h.lang,zq5 (zna u hij hj)];exact⟨fun⟨_,_,q,h1,h2⟩=>⟨q,⟨hij,hj,h1⟩,h2⟩,fun⟨q,⟨_,_,h1⟩,h2⟩=>⟨by omega,hj,q,h1,h2⟩⟩
theorem zlz{u:Word}{M:PA}{p:Pt}(h:M.Tk (In p)){i:Nat}(hi:i<=u.length):Lg u p i i↔M.e:=by
 unfold Lg;rw[zvR,zvF,<-h.lang,zsV];exact⟨fun h=>h.2.2,fun h=>⟨zvJ _,hi,h⟩⟩
theorem zrn{u:Word}{M:PA}{E:Nat->Prop}:∀{j p:Nat},Back u M E j p->∀i,i<j+1->Fwd u M i (j+1) p->∃m q,j<m/\E m/\Fwd u M i m q/\M.last q:=by
 intro j p h
 induction h with
 |stop j p c h1 h2 h3 h4 h5=>intro i hi hf;exact⟨j+1,p,by omega,h5,hf,h4⟩
 |on j p q c h1 h2 h3 h4 h5 ih=>
  intro i hi hf;have hc:∃d,u[j+1]?=some d/\M.tk q d:=by
   cases h5 with
   |stop _ _ d a b=>exact⟨d,a,b⟩
   |on _ _ _ d a b=>exact⟨d,a,b⟩
  obtain⟨d,hd,hq⟩:=hc;obtain⟨m,r,a,b,c,e⟩:=ih i (by omega) ((ze3 hi hd).2 ⟨p,hf,h4,hq⟩);exact⟨m,r,by omega,b,c,e⟩
theorem zoM{u:Word}{M:PA}{E:Nat->Prop}{i p:Nat}{c:UInt8}(hc:u[i]?=some c):Back u M E i p↔M.tk p c/\M.D p/\((M.last p/\E (i+1))\/∃q,M.fol p q/\Back u M E (i+1) q):=by
 constructor
 ·intro h;cases h with
  |stop _ _ d a b e f g=>rw[hc] at a;cases a;exact⟨b,e,.inl ⟨f,g⟩⟩
  |on _ _ q d a b e f g=>rw[hc] at a;cases a;exact⟨b,e,.inr ⟨q,f,g⟩⟩
 ·rintro ⟨h1,h2,⟨h3,h4⟩|⟨q,h3,h4⟩⟩
  ·exact .stop i p c hc h1 h2 h3 h4
  ·exact .on i p q c hc h1 h2 h3 h4
theorem Back.byte{u:Word}{M:PA}{E:Nat->Prop}{i p:Nat}(h:Back u M E i p):∃c,u[i]?=some c/\M.tk p c/\M.D p:=by
 cases h with
 |stop _ _ d a b c=>exact⟨d,a,b,c⟩
 |on _ _ _ d a b c=>exact⟨d,a,b,c⟩
theorem Fwd.byte{u:Word}{M:PA}{i j p:Nat}(h:Fwd u M i (j+1) p)(hij:i<=j):∃c,u[j]?=some c/\M.tk p c:=by
 have hj:=h.2.1;obtain⟨c,hc⟩:∃c,u[j]?=some c:=⟨_,zva (by omega)⟩;refine⟨c,hc,?_⟩
 by_cases e:i<j
 ·obtain⟨_,_,_,h⟩:=(ze3 e hc).1 h;exact h
 ·obtain rfl:i=j:=by omega
  exact((ziZ hc).1 h).2
theorem zgA{u:Word}{M N:PA}{E:Nat->Prop}(hD:∀p,M.D p->N.D p)(ht:∀p c,M.tk p c->N.tk p c)(hf:∀p q,M.fol p q->N.fol p q)(fi:∀p,M.first p->M.D p)(fo:∀p q,M.D p->M.fol p q->M.D q){i:Nat}:∀(k x q:Nat),Fwd u M i (x+1) q->Back u N E x q->∀j,j+k=x->i<=j->∃p,Fwd u M i (j+1) p/\Back u N E j p
 |0,x,q,h1,h2,j,hj,_=>by
  obtain rfl:j=x:=hj;exact⟨q,h1,h2⟩
 |k+1,x,q,h1,h2,j,hj,hij=>by
  obtain⟨y,rfl⟩:∃y,x=y+1:=⟨x-1,by omega⟩;obtain⟨c,hc,_⟩:=h1.byte (by omega);obtain⟨p,h3,h4,_⟩:=(ze3 (by omega) hc).1 h1;obtain⟨d,hd,htk⟩:=h3.byte (by omega);exact zgA hD ht hf fi fo k y p h3 (.on y p q d hd (ht _ _ htk) (hD _ (h3.2.2.inside fi fo)) (hf _ _ h4) h2) j (by omega) hij
def Sta(u:Word)(M:PA)(E:Nat->Prop)(m:Nat):Prop:=(E m/\M.e)\/∃p,M.first p/\Back u M E m p
theorem zur{u:Word}{M:PA}{p:Pt}(h:M.Tk (In p)){E:Nat->Prop}(hE:∀m,E m->m<=u.length)(m:Nat):Sta u M E m↔∃e,E e/\Lg u p m e:=by
 constructor
 ·rintro (⟨h1,h2⟩|⟨q,h1,h2⟩)
  ·exact⟨m,h1,(zlz h (hE m h1)).2 h2⟩
  ·obtain⟨c,hc,htk,_⟩:=h2.byte;obtain⟨x,r,a,b,c',d⟩:=zrn h2 m (by omega) ((ziZ hc).2 ⟨h1,htk⟩);exact⟨x,b,(zpq h (by omega) (hE x b)).2 ⟨r,c',d⟩⟩
 ·rintro ⟨e,h1,h2⟩;have hme:=h2.1;rcases zvM m e with hlt|hge
  ·obtain⟨q,h3,h4⟩:=(zpq h hlt (hE e h1)).1 h2;obtain⟨x,rfl⟩:∃x,e=x+1:=⟨e-1,by omega⟩;obtain⟨c,hc,htk⟩:=h3.byte (by omega);obtain⟨r,h5,h6⟩:=zgA (N:=M) (E:=E) (fun _ h=>h) (fun _ _ h=>h) (fun _ _ h=>h) h.fi h.fo (x-m) x q h3 (.stop x q c hc htk (h3.2.2.inside h.fi h.fo) h4 h1) m (by omega) (zvJ _);obtain⟨d,hd,_⟩:=h6.byte;exact .inr ⟨r,((ziZ hd).1 h5).1,h6⟩
  ·obtain rfl:m=e:=by omega
   exact .inl ⟨h1,(zlz h (hE m h1)).1 h2⟩
theorem zqt{u:Word}{M:PA}{L:Word->Prop}(h:M.Tk L){E:Nat->Prop}{i m q:Nat}(hf:Fwd u M i m q)(hl:M.last q)(hs:Sta u M.star E m)(j:Nat)(hij:i<=j)(hjm:j<m):∃p,Fwd u M i (j+1) p/\Back u M.star E j p:=by
 obtain⟨x,rfl⟩:∃x,m=x+1:=⟨m-1,by omega⟩;obtain⟨c,hc,htk⟩:=hf.byte (by omega);have hD:=hf.2.2.inside h.fi h.fo;refine zgA (M:=M) (N:=M.star) (E:=E) (fun _ h=>h) (fun _ _ h=>h) (fun _ _ h=>.inl h) h.fi h.fo (x-j) x q hf ?_ j (by omega) hij;rcases hs with ⟨h1,_⟩|⟨p,h1,h2⟩
 ·exact .stop x q c hc htk hD hl h1
 ·exact .on x q p c hc htk hD (.inr ⟨hl,h1⟩) h2
end Go.Proofs.YtdimhpfiieepiaaGreatDoor
