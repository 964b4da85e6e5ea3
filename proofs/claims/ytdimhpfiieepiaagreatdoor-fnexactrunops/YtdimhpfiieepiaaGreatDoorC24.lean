import Derived.Test.YtdimhpfiieepiaaGreatDoorC21
import Derived.Test.YtdimhpfiieepiaaGreatDoorC23
namespace Go.Proofs.YtdimhpfiieepiaaGreatDoor
open Proofs.Tryz
open Option renaming some->za,none->zc
open Value renaming pointer->zd,slice->ze,int->zg,agg->zn
open Go renaming World->zh,Value->zi,Calls->zm,TypeId->zo
open Obj renaming cells->zj
open RowKit renaming Hid->zk,Below->zl
set_option maxHeartbeats 4000000
set_option maxRecDepth 100000
open Go.RowKit
section
variable {O:Nat -> Prop}{w:zh}{r nw bt ga gl gm gv m B n:Nat}{lv sS sP sv fv:zi}{L gx lr mk A:Nat -> Nat}{Ts Lk:Nat -> Nat -> Nat}{es:List (Int×Int)}{f:Nat -> Nat -> Bool}
attribute [local go_sem] Oper.semAt_some
theorem fF.zAt{w':zh}(h:fF O w r nw bt ga gl lv L gm gv sS sP gx Ts m es)(hc:∀(k:Nat) (cs:Array zi) (t:zo),w.heap[k]?=za (zj cs t (0,0))->w'.heap[k]?=za (zj cs t (0,0)))(hm:∀(k:Nat) (e:Array MapEntry) (c:Nat),w.heap[k]?=za (.map e c)->w'.heap[k]?=za (.map e c)):fF O w' r nw bt ga gl lv L gm gv sS sP gx Ts m es:=
 ⟨hc _ _ _ h.box,hm _ _ _ h.nm,hm _ _ _ h.mv,li h.so λ_ _ e=>hc _ _ _ e,li h.po λ_ _ e=>hc _ _ _ e,λi hi=>⟨hc _ _ _ (h.set i hi).row,(h.set i hi).lt⟩,h.AV,h.or,h.om,h.ov,h.os,h.op,h.ox,h.nd⟩
theorem fF.zAA{es':List (Int×Int)}(h:fF O w r nw bt ga gl lv L gm gv sS sP gx Ts m es):fF O {w with heap:=w.heap.setIfInBounds gv (.map (qQ es') es'.length)} r nw bt ga gl lv L gm gv sS sP gx Ts m es':=by
 have hs:=MapKept.heap_set (o':=.map (qQ es') es'.length) h.mv;have hc:∀(k:Nat) (cs:Array zi) (t:zo),w.heap[k]?=za (zj cs t (0,0))->(w.heap.setIfInBounds gv (.map (qQ es') es'.length))[k]?=za (zj cs t (0,0)):=λk cs t e=>(hs.2 k (λe2=>by rw[e2,h.mv]at e;cases e)).trans e
 exact⟨hc _ _ _ h.box,(hs.2 gm h.AV).trans h.nm,hs.1,li h.so λ_ _ e=>hc _ _ _ e,li h.po λ_ _ e=>hc _ _ _ e,λi hi=>⟨hc _ _ _ (h.set i hi).row,(h.set i hi).lt⟩,h.AV,h.or,h.om,h.ov,h.os,h.op,h.ox,h.nd⟩
theorem zjn{T U:Nat->Nat}(h:∀x,x<nw->T x=U x){q:Nat}(hq:q<64*nw):au T q=au U q:=by
 unfold au;rw[h (q/64) (by omega)]
theorem zkd(C:pN B w n nw bt ga gl lv sv fv lr mk Lk A L f)(h:fF O w r nw bt ga gl lv L gm gv sS sP gx Ts m es)(hM:uk nw f Lk A Ts m es)(hS:Gv n nw Ts m){i c:Nat}{b:Bool}(hi:i<m)(hc:c<256)(hm:m<=100000000)(hk:iF i c b∉eA es)
  {w5:zh} (bW:w5.os=w.os) (htp:w5.tape=w.tape) (hop:w5.output=w.output) (hsz:w.heap.size<=w5.heap.size) (Vm:∀k,k<w.heap.size->w5.heap[k]?=w.heap[k]?) {g4:Nat} {U4:Nat->Nat} (pb:w.heap.size<=g4) (hp:aH w5 nw g4 U4) (hU:∀q,au U4 q=true->q<n) (hst:yv nw f Lk A (Ts i) c b U4):
  zm prog 169 #[zd (za ⟨r,0,zc⟩),ze (za ⟨g4,0,zc⟩) nw nw] w5 λe w6=>∃(t:Nat) (W7:zh),e=.returned (zg .i64 t)/\ap O w5 w6/\w6.cell? ⟨r,7,zc⟩=za (.map (za gv))/\w6.cell? ⟨r,0,zc⟩=za (zd (za ⟨bt,0,zc⟩))/\(Instr.mapUpdate 232 (.map (za gv)) (zg .i64 (iF i c b)) (zg .i64 t)).run prog w6=.ok () W7/\(∀k,k≠gv->W7.heap[k]?=w6.heap[k]?)/\
   zk (∀D,w.heap.size<=D->W7.heap[D]?=za (.deferred (za []))->JS O w n r nw bt ga gl lv f Lk A L gm gv gx Ts m i c b (.returned (zg .i64 t)) (W7.putObj D (.deferred zc))):=by
 have h5:=h.keep (w':=w5) λk _ hl=>Vm k hl
 have hL5:aH w5 nw gl L:=⟨(Vm gl (bA C.pl.2 C.le)).trans C.pl.1.row,C.pl.1.lt⟩;refine(zd8 h5 g4 U4 hp hL5 C.ic hm).mono ?_;rintro e w6 ⟨t,m',FG,FF,pO,iR,rfl,hR,ht,dw,dG,hold,pW,qM,tc⟩;have Vg:=ztY w6 underlying232 underlying3 gv es (iF i c b) (t:Int) hk hR.mv;have lH:=MapKept.heap_set (o':=.map (qQ (es++[(iF i c b,(t:Int))])) (es++[(iF i c b,(t:Int))]).length) hR.mv;refine⟨t,_,rfl,tc,(oA hR.box).2.2.2.2.2.2.2,(oA hR.box).1,Vg,λk hne=>lH.2 k hne,λD hD hK=>?_⟩;have hR7:=hR.zAA (es':=es++[(iF i c b,(t:Int))]);obtain⟨W7,iT⟩:∃W7,({w6 with heap:=w6.heap.setIfInBounds gv (.map (qQ (es++[(iF i c b,(t:Int))])) (es++[(iF i c b,(t:Int))]).length)}:zh)=W7:=⟨_,rfl⟩;have e7:∀k,k≠gv->W7.heap[k]?=w6.heap[k]?:=λk hne=>by rw[<-iT];exact lH.2 k hne
 have s7:W7.heap.size=w6.heap.size:=by rw[<-iT];simp
 have o7:W7.os=w6.os/\W7.tape=w6.tape/\W7.output=w6.output:=by rw[<-iT];exact⟨rfl,rfl,rfl⟩
 rw[iT]at hR7 hK ⊢;have zBw:=tc.size;have hR8:=hR7.zAt (w':=W7.putObj D (.deferred zc)) (λk cs t e=>(World.putObj_heap_other (λe2=>by subst e2;rw[hK]at e;cases e)).trans e) (λk es c e=>(World.putObj_heap_other (λe2=>by subst e2;rw[hK]at e;cases e)).trans e);have hTi:iR i=Ts i:=(hold i hi).2;have Mg:yv nw f Lk A (Ts i) c b (iR t):=λq hq=>by rw[zjn pW hq];exact hst q hq
 refine⟨t,m',FG,FF,pO,iR,es++[(iF i c b,(t:Int))],rfl,hR8.lt.mono λk ⟨ho,hl⟩=>?_,ht,dw,dG,hold,Mg,((hM.more dw λj hj=>(hold j hj).2).put (by omega) hc ht hk (by rw[hTi];exact Mg)),λj q hj hq hb=>?_,?_⟩
 ·rcases ho with ho|rfl|ho
  ·exact .inl ho
  ·exact .inr ⟨pb,hl⟩
  ·exact .inr ⟨by omega,hl⟩
 ·by_cases UD:j<m
  ·rw[(hold j UD).2]at hb;exact hS j q UD hq hb
  ·have:=qM j (by omega) hj;subst this;rw[zjn pW hq]at hb;exact hU q hb
 ·refine⟨(show W7.os=_ from o7.1).trans (tc.os.trans bW),(show W7.tape=_ from o7.2.1).trans (tc.tape.trans htp),(show W7.output=_ from o7.2.2).trans (tc.output.trans hop),by simp;omega,λk hk hn=>?_⟩;rw[World.putObj_heap_other (by omega),e7 k (λe=>hn (by rw[e];exact h.ov)),tc.same k (by omega) hn,Vm k hk]
theorem zrY(C:pN B w n nw bt ga gl lv sv fv lr mk Lk A L f)(hO:∀k,O k->B<=k/\k<w.heap.size)(h:fF O w r nw bt ga gl lv L gm gv sS sP gx Ts m es)(hM:uk nw f Lk A Ts m es)(hS:Gv n nw Ts m)(i c:Nat)(b:Bool)(hi:i<m)(hc:c<256)(hm:m<=100000000)(hk:iF i c b∉eA es):
  zm prog 147 #[zd (za ⟨r,0,zc⟩),zg .i64 i,.int .u8 c,.bool b] w λe w'=>JS O w n r nw bt ga gl lv f Lk A L gm gv gx Ts m i c b e w':=by
 obtain⟨W1,cm⟩:∃W1,w.alloc (zj #[zd (za ⟨r,0,zc⟩)] 191)=W1:=⟨_,rfl⟩;have ag:zl w.heap.size w W1:=by rw[<-cm];exact aw
 have k0:W1.heap[w.heap.size]?=za (zj #[zd (za ⟨r,0,zc⟩)] 191 (0,0)):=by rw[<-cm];exact aI _ _
 have c0:W1.cell? ⟨w.heap.size,0,zc⟩=za (zd (za ⟨r,0,zc⟩)):=(aM _ _ _ _ _ _ k0:_=_);have h1:=h.keep (w':=W1) λk _ hl=>ag.block k hl
 obtain⟨b0,b1,b2,b3,b4,b5,b6,b7⟩:=oA h1.box;have hl:=zpz W1 underlying232 underlying3 (Tryz.zyd W1) gv es (iF i c b) h1.mv;have xF:decide (iF i c b∈eA es)=false:=by simp[hk]
 rw[xF,zpA hk]at hl;have hno:=Gk nw bt sv fv W1 ((ag.block bt (bA C.AP C.le)).trans C.box) C.ic;have II:iF i c b=2*(256*(i:Int)+(c:Int))+(if b=true then 1 else 0):=rfl;obtain⟨mc,zBz⟩:∃mc,iF i c b=mc:=⟨_,rfl⟩;rw[II]at hl;obtain⟨gS,cS,ax,rfl,E5,C8⟩:=yl h.so (by omega);have Ti:w.cell? ⟨gS,i,zc⟩=za (ze (za ⟨gx i,0,zc⟩) nw nw):=by
  rw[aM _ _ _ _ _ _ E5,C8 i hi];simp[gO,hi]
 have zzF:gS<w.heap.size:=(ah.1 E5).1;have kX:r<w.heap.size:=(ah.1 h.box).1;have da:(0:Int)<=(i:Int):=by omega
 have cO:(i:Int)<(m:Int):=by omega
 have HW:∀W,zl W1.heap.size W1 W->W.cell? ⟨w.heap.size,0,zc⟩=za (zd (za ⟨r,0,zc⟩))/\(W.cell? ⟨r,0,zc⟩=za (zd (za ⟨bt,0,zc⟩))/\W.cell? ⟨r,1,zc⟩=za lv/\W.cell? ⟨r,2,zc⟩=za (ze (za ⟨ga,0,zc⟩) nw nw)/\W.cell? ⟨r,5,zc⟩=za (ze (za ⟨gS,0,zc⟩) m cS)/\W.cell? ⟨r,7,zc⟩=za (.map (za gv)))/\W.cell? ⟨gS,i,zc⟩=za (ze (za ⟨gx i,0,zc⟩) nw nw):=λW hb=>by
  have dH:=ag.size;have hc:=λ(d o:Nat) (hl:d<W1.heap.size)=>hb.cell (p:=⟨d,o,zc⟩) hl
  have mh:w.heap.size<W1.heap.size:=(ah.1 k0).1;exact⟨(hc _ _ mh).trans c0,⟨(hc _ _ (by omega)).trans b0,(hc _ _ (by omega)).trans b1,(hc _ _ (by omega)).trans b2,(hc _ _ (by omega)).trans b5,(hc _ _ (by omega)).trans b7⟩,(hc _ _ (by omega)).trans ((ag.cell (p:=⟨gS,i,zc⟩) zzF).trans Ti)⟩
 refine(callsIn_wide (n:=5)).1 ?_;refine callsIn_of_wp_marks func147 rfl trivial ?_ rfl;simp only[ntmps147,yE,qu,oJ,Nat.reduceAdd,Nat.reduceSub,B4,B5,B9,BW,wX,BX];have Hl:zk _:=hl;cases b
 ·simp only[if_false,zZ,Int.add_zero]at hl
  gi_wp2_with (refine⟨trivial,?_⟩;gi_at_call 164;refine(callsIn_wide.2 hno).mono ?_;rintro e w2 ⟨rfl,aQ,bU⟩;have ae:zl W1.heap.size W1 w2:=⟨bU.os,bU.tape,bU.output,bU.size,λk hk=>bU.block k hk (by simp)⟩;obtain⟨W0,ai⟩:∃W0,w2.alloc (zj #[ze (za ⟨W1.heap.size,0,zc⟩) nw nw] 193)=W0:=⟨_,rfl⟩;have af:zl W1.heap.size W1 W0:=(by rw[<-ai];exact ae.alloc ae.size _);obtain⟨z0,⟨y0,y1,y2,y5,y7⟩,x0⟩:=HW W0 af)
  have x5:W0.heap[w2.heap.size]?=za (zj #[ze (za ⟨W1.heap.size,0,zc⟩) nw nw] 193 (0,0)):=by rw[<-ai];exact aI _ _
  have yN:aH W0 nw W1.heap.size cQ:=by rw[<-ai];exact⟨cX aQ.row,aQ.lt⟩
  have uX:=aQ.cB;have mh:w.heap.size<W1.heap.size:=(ah.1 k0).1;have hsz:w2.heap.size<W0.heap.size:=(ah.1 x5).1;obtain⟨gN,Iw⟩:∃gN,W1.heap.size=gN:=⟨_,rfl⟩;have BF:∀k,k<w.heap.size->W0.heap[k]?=w.heap[k]?:=λk hk=>(af.block k (by omega)).trans (ag.block k hk)
  rw[Iw]at x5 yN uX mh ⊢;have C0:=C.keep (w':=W0) (λk hk=>BF k (bA hk C.le)) (by have:=C.le;omega);have MW:aH W0 nw (gx i) (Ts i):=⟨(BF _ (h.set i hi).cB).trans (h.set i hi).row,(h.set i hi).lt⟩;have fD:=(h.set i hi).cB;have HX:zk (hl=hl):=rfl;clear HX hl Hl hno ae aQ bU ai
  rename_i K CU
  refine Jo (by omega) (gf:=165) (fb:=#[ze (za ⟨gx i,0,zc⟩) nw nw]) (lb:=#[]) rfl (enters_of func165 (by kernel_rfl) rfl)
   (T:=[0,gx i]) (by intro k hk;simp at hk;have:=C.pos;have:=C.le;omega)
   (Nd 4 nw (gx i) nw (Ts i) (by omega) C.ic W0 MW C0.dv) (λ_=>rfl)
   (λpre W=>ap (λk=>k=gN) W0 W/\∃U,aH W nw gN U/\∀q,au U q=true↔∃p,p∈jv pre/\au (Lk p) q=true)
   (λ_ _ _=>False)
   (λs A B hs ht=>⟨hs.1.turn ht,by obtain⟨U,h1,h2⟩:=hs.2;exact⟨U,⟨ht.same _ _ h1.row (.inr rfl),h1.lt⟩,h2⟩⟩)
   (λc s A B hs ht=>hs)
   ⟨ap.refl _ _,cQ,yN,λq=>by rw[BL];simp[jv]⟩
   (λx=>{tmps:=#[zd (za ⟨r,0,zc⟩),zg .i64 i,.int .u8 c,.bool false,zd (za ⟨w.heap.size,0,zc⟩),undef,undef,undef,zg .i64 0,zg .i64 (2*(256*(i:Int)+(c:Int))),zg .i64 0,.bool false,zd (za ⟨w2.heap.size,0,zc⟩),zg .i64 (x.1:Int),zg .i64 i,zg .i64 (256*(i:Int)),.int .u8 c,zg .i64 c,zg .i64 (256*(i:Int)+(c:Int)),zg .i64 (2*(256*(i:Int)+(c:Int))),.bool false,undef,undef,.tuple #[zg .i64 0,.bool false],zd (za ⟨r,0,zc⟩),zd (za ⟨r,0,zc⟩),zd (za ⟨r,7,zc⟩),.map (za gv),zg .i64 (2*(256*(i:Int)+(c:Int))),.tuple #[zg .i64 0,.bool false],zg .i64 0,.bool false,.bool false,undef,zd (za ⟨r,0,zc⟩),zd (za ⟨r,0,zc⟩),zd (za ⟨r,0,zc⟩),zd (za ⟨bt,0,zc⟩),ze (za ⟨gN,0,zc⟩) nw nw,zd (za ⟨r,0,zc⟩),zd (za ⟨r,0,zc⟩),zd (za ⟨r,5,zc⟩),ze (za ⟨gS,0,zc⟩) m cS,zg .i64 i,zd (za ⟨gS,i,zc⟩),ze (za ⟨gx i,0,zc⟩) nw nw,.func (.func 165) #[ze (za ⟨gx i,0,zc⟩) nw nw] #[],zg .i64 (x.1:Int),undef,undef,undef,undef,undef,undef,undef,undef,undef,undef,undef,undef,undef,undef,undef,undef,undef,undef,undef,undef,undef,undef,undef,undef,undef,undef,undef,undef,undef,undef,undef,undef],defers:=[]})
   ?assign ?body ?done ?stop
  case assign=>
   intro l x W K hK
   gi_wp2
   exact hK
  case stop=>
   rintro D c pre W hD _ hf;exact hf.elim
  case body=>
   rintro l pre ⟨x,hx⟩ W hl ⟨ht,U,hU,gX⟩ hlen;have fK:=hS i x hi hx.1 hx.2;obtain⟨gf,cf,rfl,C9,rR⟩:=C0.MG (by omega);have TC:=C.le;have hlr:=(C0.wE x fK).2;have cell:∀d o,d<W0.heap.size->d≠gN->W.cell? ⟨d,o,zc⟩=W0.cell? ⟨d,o,zc⟩:=λd o h1 h2=>World.cell?_of_block (ht.same d h1 h2)
   have z3:=(cell w.heap.size 0 (by omega) (by omega)).trans z0;have z5:W.cell? ⟨w2.heap.size,0,zc⟩=za (ze (za ⟨gN,0,zc⟩) nw nw):=(cell w2.heap.size 0 hsz (by omega)).trans (aM _ _ _ _ _ _ x5:_=_);have zb:=(cell r 1 (by omega) (by omega)).trans y1;have zf:=(cell gf x (by omega) (by omega)).trans (rR x fK);have fC:=((C0.wE x fK).1).kJ ht (by omega);have hj:=zS nw gN (lr x) nw nw U (Lk x) W.drew ⟨hU.row,hU.lt⟩ ⟨fC.row,fC.lt⟩ (by omega) C.ic;have j9:(0:Int)<=(x:Int):=by omega
   have rY:(x:Int)<(n:Int):=by omega
   have fP:prog.follows .mixedOrders=true:=by kernel_rfl
   dsimp only
   gi_wp2
   gi_region_with_o (refine⟨trivial,?_⟩;gi_at_call 168;refine(CallsIn.inRound l (callsIn_wide.2 hj)).mono ?_;rintro e w' ⟨rfl,tI,cZ⟩)
   all_goals
    gi_wp2
    refine⟨KeepsFrom.of_grownBy (W:=W) (row:=za gN) ⟨cZ.os,cZ.tape,cZ.output,cZ.size,cZ.block⟩ (λj e=>by cases e;omega),λk hk=>?_,ht.grown (A:=W) (o:=za gN) ⟨cZ.os,cZ.tape,cZ.output,cZ.size,cZ.block⟩ (λg e=>by cases e;exact .inl rfl),eU U (Lk x),tI,λq=>?_⟩
    ·refine cZ.block k ?_ (λe=>?_)
     ·have:=ht.size;simp at hk;show k<W.heap.size;omega
     ·have e':k=gN:=by simpa using e
      simp at hk;omega
    ·rw[JG,Dy,sK,gX];constructor
     ·rintro (⟨p,h3,h4⟩|h3)
      ·exact⟨p,fm.2 (.inl h3),h4⟩
      ·exact⟨x,by simp,h3⟩
     ·rintro ⟨p,h3,h4⟩;rcases fm.1 h3 with h3|h3
      ·exact .inl ⟨p,h3,h4⟩
      ·exact .inr (by rw[eK.1 h3]at h4;exact h4)
  case done=>
   rintro D ys W hD iu ⟨ht,U,hU,gX⟩ hK;have TC:=C.le;have cell:∀d o,d<W0.heap.size->d≠gN->W.cell? ⟨d,o,zc⟩=W0.cell? ⟨d,o,zc⟩:=λd o h1 h2=>World.cell?_of_block (ht.same d h1 h2)
   have z3:=(cell w.heap.size 0 (by omega) (by omega)).trans z0;have z5:W.cell? ⟨w2.heap.size,0,zc⟩=za (ze (za ⟨gN,0,zc⟩) nw nw):=(cell w2.heap.size 0 hsz (by omega)).trans (aM _ _ _ _ _ _ x5:_=_);have Ru:=(cell r 0 (by omega) (by omega)).trans y0;have YS:=(cell r 2 (by omega) (by omega)).trans y2;have wI:∀k,k<w.heap.size->W.heap[k]?=w.heap[k]?:=λk hk=>(ht.same k (by omega) (by omega)).trans (BF k hk)
   have Vl:W0.heap.size<=W.heap.size:=ht.size;have EP:∀q,au U q=true↔∃p,p<64*nw/\au (Ts i) p=true/\au (Lk p) q=true:=λq=>(gX q).trans ⟨λ⟨p,h3,h4⟩=>⟨p,((iu p).1 h3).1,((iu p).1 h3).2,h4⟩,λ⟨p,h3,h4,h5⟩=>⟨p,(iu p).2 ⟨h3,h4⟩,h5⟩⟩
   have xz:∀q,q<64*nw->au U q=true->q<n:=λq hq h3=>by
    obtain⟨p,h4,h5,h6⟩:=(EP q).1 h3;exact C.lb p q (hS i p hi h4 h5) hq h6
   have CW:=C.keep (w':=W) (λk hk=>wI k (bA hk C.le)) (by omega);have fP:prog.follows .mixedOrders=true:=by kernel_rfl
   have Ls:iF i c false=2*(256*(i:Int)+(c:Int)):=by unfold iF;simp
   have gvl:gv<w.heap.size:=(hO gv h.ov).2;obtain⟨X,hX⟩:∃X,W.drew=X:=⟨_,rfl⟩;have KB:X.os=w.os:=by rw[<-hX];exact(show W.os=_ from ht.os).trans (af.os.trans ag.os)
   have KD:X.tape=w.tape:=by rw[<-hX];exact(show W.tape=_ from ht.tape).trans (af.tape.trans ag.tape)
   have KA:X.output=w.output:=by rw[<-hX];exact(show W.output=_ from ht.output).trans (af.output.trans ag.output)
   have Et:w.heap.size<=X.heap.size:=by rw[<-hX];show _<=W.heap.size;omega
   have KC:∀k,k<w.heap.size->X.heap[k]?=w.heap[k]?:=by rw[<-hX];exact wI
   have Xn:∀q,q<64*nw->au U q=true->q<n:=xz;have Xq:∀q,q<64*nw->(au U q=true↔(∃p,p<64*nw/\au (Ts i) p=true/\au (Lk p) q=true)\/(false=true/\au A q=true)):=λq _=>(EP q).trans ⟨.inl,λh=>h.elim id λh=>by cases h.1⟩
   have fQ:=zky n nw bt gN nw c sv fv mk f U W.drew CW.box (λhn=>by obtain⟨gs,cs,e1,e2,e3⟩:=CW.Dx hn;exact⟨gs,cs,e1,by show gs<W.heap.size;omega,e3⟩) (λp hp=>(CW.qf p hp).1) ⟨hU.row,hU.lt⟩ xz CW.ic hc CW.dv (by show 0<W.heap.size;omega);rw[hX]at fQ;have xK:=λ(w5:zh) (g4:Nat) (U4:Nat->Nat) (hb:zl X.heap.size X w5) (pb:X.heap.size<=g4) (hp:aH w5 nw g4 U4) (EW:∀q,au U4 q=true↔q<64*nw/\au U q=true/\f q c=true)=>zkd C h hM hS (b:=false) hi hc hm hk (w5:=w5) (hb.os.trans KB) (hb.tape.trans KD) (hb.output.trans KA) (aW Et hb.size) (λk hk=>(hb.block k (bA hk Et)).trans (KC k hk)) (g4:=g4) (U4:=U4) (aW Et pb) hp (λq hq=>Xn q ((EW q).1 hq).1 ((EW q).1 hq).2.1) (λq hq=>by
    rw[EW q];constructor
    ·rintro ⟨_,h3,h4⟩;exact⟨h4,(Xq q hq).1 h3⟩
    ·rintro ⟨h3,h4⟩;exact⟨hq,(Xq q hq).2 h4,h3⟩)
   simp only[Ls]at xK;have ry:zk (∀k,O k->k<w.heap.size):=λk hk=>(hO k hk).2
   have Hh:zk (xK=xK):=rfl;clear Hh h hM hS hO C C0 CW HW gX iu hU h1 Ti E5 C8 b0 b1 b2 b3 b4 b5 b6 b7 c0 x0 y0 y1 y2 y5 y7 z0 yN MW II xF Ls;have X3:X.cell? ⟨w.heap.size,0,zc⟩=za (zd (za ⟨r,0,zc⟩)):=by rw[<-hX];exact z3
   have X5:X.cell? ⟨w2.heap.size,0,zc⟩=za (ze (za ⟨gN,0,zc⟩) nw nw):=by rw[<-hX];exact z5
   have X0:X.cell? ⟨r,0,zc⟩=za (zd (za ⟨bt,0,zc⟩)):=by rw[<-hX];exact Ru
   have XD:X.heap[D]?=za (.deferred (za [])):=by rw[<-hX];exact hK
   have SW:D<X.heap.size:=(ah.1 XD).1;have SY:w.heap.size<X.heap.size:=by rw[<-hX];show _<W.heap.size;omega
   have SX:w2.heap.size<X.heap.size:=by rw[<-hX];show _<W.heap.size;omega
   have Xr:r<X.heap.size:=by omega
   have zAh:w.heap.size<=w2.heap.size:=by omega
   have TD:w.heap.size<=D:=by omega
   have R8:zk _:=XD;refine CU _ _ (wpIn_wide.2 ?_);dsimp only;clear CU XD hK ht wI EP xz KB KD KA KC Xn Xq cell BF
   go_wp2_with fail
   go_region_held3 (λw'=>w'.cell? ⟨w.heap.size,0,zc⟩=za (zd (za ⟨r,0,zc⟩))/\w'.cell? ⟨w2.heap.size,0,zc⟩=za (ze (za ⟨gN,0,zc⟩) nw nw)/\w'.cell? ⟨r,0,zc⟩=za (zd (za ⟨bt,0,zc⟩))) ((first|exact⟨X3,X5,X0⟩|exact⟨z3,z5,Ru⟩|exact⟨q3,q5,q0⟩|exact⟨p3,p5,p0⟩|go_keep)) ((first|(go_at_call 170;refine fQ.mono ?_;rintro e w5 ⟨g4,U4,rfl,pb,L8,bE,pT⟩;have q3:=(pT.cell (p:=⟨w.heap.size,0,zc⟩) SY).trans X3;have q5:=(pT.cell (p:=⟨w2.heap.size,0,zc⟩) SX).trans X5;have q0:=(pT.cell (p:=⟨r,0,zc⟩) Xr).trans X0)|(go_at_call 169;refine(xK w5 g4 U4 pT pb L8 bE).mono ?_;rintro e w6 ⟨t,W7,rfl,vh,zm6,p0,Vg,TA,HR⟩;have p3:w6.cell? ⟨w.heap.size,0,zc⟩=za (zd (za ⟨r,0,zc⟩)):=(World.cell?_of_block (vh.same w.heap.size (by have:=pT.size;omega) (λe=>by have:=ry.out _ e;omega))).trans q3;have p5:w6.cell? ⟨w2.heap.size,0,zc⟩=za (ze (za ⟨gN,0,zc⟩) nw nw):=(World.cell?_of_block (vh.same w2.heap.size (by have:=pT.size;omega) (λe=>by have:=ry.out _ e;omega))).trans q5)))
   all_goals
    have CT:W7.heap[D]?=za (.deferred (za [])):=by
     rw[TA D (by omega),vh.same D (by have:=pT.size;omega) (λe=>by have:=ry.out _ e;omega),pT.block D SW];exact R8.out
    have J4:=HR.out D TD CT;have lz:zk _:=J4;clear J4 HR xK fQ;go_wp2;refine⟨by simp,.inl ⟨_,_,rfl,run_takeDeferred CT,?_⟩⟩;exact⟨zg .i64 t,by simp[results,results147,go_sem],lz.out⟩
 ·simp only[if_true]at hl
  gi_wp2_with (refine⟨trivial,?_⟩;gi_at_call 164;refine(callsIn_wide.2 hno).mono ?_;rintro e w2 ⟨rfl,aQ,bU⟩;have ae:zl W1.heap.size W1 w2:=⟨bU.os,bU.tape,bU.output,bU.size,λk hk=>bU.block k hk (by simp)⟩;obtain⟨W0,ai⟩:∃W0,w2.alloc (zj #[ze (za ⟨W1.heap.size,0,zc⟩) nw nw] 193)=W0:=⟨_,rfl⟩;have af:zl W1.heap.size W1 W0:=(by rw[<-ai];exact ae.alloc ae.size _);obtain⟨z0,⟨y0,y1,y2,y5,y7⟩,x0⟩:=HW W0 af)
  have x5:W0.heap[w2.heap.size]?=za (zj #[ze (za ⟨W1.heap.size,0,zc⟩) nw nw] 193 (0,0)):=by rw[<-ai];exact aI _ _
  have yN:aH W0 nw W1.heap.size cQ:=by rw[<-ai];exact⟨cX aQ.row,aQ.lt⟩
  have uX:=aQ.cB;have mh:w.heap.size<W1.heap.size:=(ah.1 k0).1;have hsz:w2.heap.size<W0.heap.size:=(ah.1 x5).1;obtain⟨gN,Iw⟩:∃gN,W1.heap.size=gN:=⟨_,rfl⟩;have BF:∀k,k<w.heap.size->W0.heap[k]?=w.heap[k]?:=λk hk=>(af.block k (by omega)).trans (ag.block k hk)
  rw[Iw]at x5 yN uX mh ⊢;have C0:=C.keep (w':=W0) (λk hk=>BF k (bA hk C.le)) (by have:=C.le;omega);have MW:aH W0 nw (gx i) (Ts i):=⟨(BF _ (h.set i hi).cB).trans (h.set i hi).row,(h.set i hi).lt⟩;have fD:=(h.set i hi).cB;have HX:zk (hl=hl):=rfl;clear HX hl Hl hno ae aQ bU ai
  rename_i K CU
  refine Jo (by omega) (gf:=165) (fb:=#[ze (za ⟨gx i,0,zc⟩) nw nw]) (lb:=#[]) rfl (enters_of func165 (by kernel_rfl) rfl)
   (T:=[0,gx i]) (by intro k hk;simp at hk;have:=C.pos;have:=C.le;omega)
   (Nd 4 nw (gx i) nw (Ts i) (by omega) C.ic W0 MW C0.dv) (λ_=>rfl)
   (λpre W=>ap (λk=>k=gN) W0 W/\∃U,aH W nw gN U/\∀q,au U q=true↔∃p,p∈jv pre/\au (Lk p) q=true)
   (λ_ _ _=>False)
   (λs A B hs ht=>⟨hs.1.turn ht,by obtain⟨U,h1,h2⟩:=hs.2;exact⟨U,⟨ht.same _ _ h1.row (.inr rfl),h1.lt⟩,h2⟩⟩)
   (λc s A B hs ht=>hs)
   ⟨ap.refl _ _,cQ,yN,λq=>by rw[BL];simp[jv]⟩
   (λx=>{tmps:=#[zd (za ⟨r,0,zc⟩),zg .i64 i,.int .u8 c,.bool true,zd (za ⟨w.heap.size,0,zc⟩),undef,undef,undef,zg .i64 0,zg .i64 (2*(256*(i:Int)+(c:Int))+1),zg .i64 0,.bool false,zd (za ⟨w2.heap.size,0,zc⟩),zg .i64 (x.1:Int),zg .i64 i,zg .i64 (256*(i:Int)),.int .u8 c,zg .i64 c,zg .i64 (256*(i:Int)+(c:Int)),zg .i64 (2*(256*(i:Int)+(c:Int))),.bool true,zg .i64 (2*(256*(i:Int)+(c:Int))),zg .i64 (2*(256*(i:Int)+(c:Int))+1),.tuple #[zg .i64 0,.bool false],zd (za ⟨r,0,zc⟩),zd (za ⟨r,0,zc⟩),zd (za ⟨r,7,zc⟩),.map (za gv),zg .i64 (2*(256*(i:Int)+(c:Int))+1),.tuple #[zg .i64 0,.bool false],zg .i64 0,.bool false,.bool false,undef,zd (za ⟨r,0,zc⟩),zd (za ⟨r,0,zc⟩),zd (za ⟨r,0,zc⟩),zd (za ⟨bt,0,zc⟩),ze (za ⟨gN,0,zc⟩) nw nw,zd (za ⟨r,0,zc⟩),zd (za ⟨r,0,zc⟩),zd (za ⟨r,5,zc⟩),ze (za ⟨gS,0,zc⟩) m cS,zg .i64 i,zd (za ⟨gS,i,zc⟩),ze (za ⟨gx i,0,zc⟩) nw nw,.func (.func 165) #[ze (za ⟨gx i,0,zc⟩) nw nw] #[],zg .i64 (x.1:Int),undef,undef,undef,undef,undef,undef,undef,undef,undef,undef,undef,undef,undef,undef,undef,undef,undef,undef,undef,undef,undef,undef,undef,undef,undef,undef,undef,undef,undef,undef,undef,undef],defers:=[]})
   ?assign ?body ?done ?stop
  case assign=>
   intro l x W K hK
   gi_wp2
   exact hK
  case stop=>
   rintro D c pre W hD _ hf;exact hf.elim
  case body=>
   rintro l pre ⟨x,hx⟩ W hl ⟨ht,U,hU,gX⟩ hlen;have fK:=hS i x hi hx.1 hx.2;obtain⟨gf,cf,rfl,C9,rR⟩:=C0.MG (by omega);have TC:=C.le;have hlr:=(C0.wE x fK).2;have cell:∀d o,d<W0.heap.size->d≠gN->W.cell? ⟨d,o,zc⟩=W0.cell? ⟨d,o,zc⟩:=λd o h1 h2=>World.cell?_of_block (ht.same d h1 h2)
   have z3:=(cell w.heap.size 0 (by omega) (by omega)).trans z0;have z5:W.cell? ⟨w2.heap.size,0,zc⟩=za (ze (za ⟨gN,0,zc⟩) nw nw):=(cell w2.heap.size 0 hsz (by omega)).trans (aM _ _ _ _ _ _ x5:_=_);have zb:=(cell r 1 (by omega) (by omega)).trans y1;have zf:=(cell gf x (by omega) (by omega)).trans (rR x fK);have fC:=((C0.wE x fK).1).kJ ht (by omega);have hj:=zS nw gN (lr x) nw nw U (Lk x) W.drew ⟨hU.row,hU.lt⟩ ⟨fC.row,fC.lt⟩ (by omega) C.ic;have j9:(0:Int)<=(x:Int):=by omega
   have rY:(x:Int)<(n:Int):=by omega
   have fP:prog.follows .mixedOrders=true:=by kernel_rfl
   dsimp only
   gi_wp2
   gi_region_with_o (refine⟨trivial,?_⟩;gi_at_call 168;refine(CallsIn.inRound l (callsIn_wide.2 hj)).mono ?_;rintro e w' ⟨rfl,tI,cZ⟩)
   all_goals
    gi_wp2
    refine⟨KeepsFrom.of_grownBy (W:=W) (row:=za gN) ⟨cZ.os,cZ.tape,cZ.output,cZ.size,cZ.block⟩ (λj e=>by cases e;omega),λk hk=>?_,ht.grown (A:=W) (o:=za gN) ⟨cZ.os,cZ.tape,cZ.output,cZ.size,cZ.block⟩ (λg e=>by cases e;exact .inl rfl),eU U (Lk x),tI,λq=>?_⟩
    ·refine cZ.block k ?_ (λe=>?_)
     ·have:=ht.size;simp at hk;show k<W.heap.size;omega
     ·have e':k=gN:=by simpa using e
      simp at hk;omega
    ·rw[JG,Dy,sK,gX];constructor
     ·rintro (⟨p,h3,h4⟩|h3)
      ·exact⟨p,fm.2 (.inl h3),h4⟩
      ·exact⟨x,by simp,h3⟩
     ·rintro ⟨p,h3,h4⟩;rcases fm.1 h3 with h3|h3
      ·exact .inl ⟨p,h3,h4⟩
      ·exact .inr (by rw[eK.1 h3]at h4;exact h4)
  case done=>
   rintro D ys W hD iu ⟨ht,U,hU,gX⟩ hK;have TC:=C.le;have cell:∀d o,d<W0.heap.size->d≠gN->W.cell? ⟨d,o,zc⟩=W0.cell? ⟨d,o,zc⟩:=λd o h1 h2=>World.cell?_of_block (ht.same d h1 h2)
   have z3:=(cell w.heap.size 0 (by omega) (by omega)).trans z0;have z5:W.cell? ⟨w2.heap.size,0,zc⟩=za (ze (za ⟨gN,0,zc⟩) nw nw):=(cell w2.heap.size 0 hsz (by omega)).trans (aM _ _ _ _ _ _ x5:_=_);have Ru:=(cell r 0 (by omega) (by omega)).trans y0;have YS:=(cell r 2 (by omega) (by omega)).trans y2;have wI:∀k,k<w.heap.size->W.heap[k]?=w.heap[k]?:=λk hk=>(ht.same k (by omega) (by omega)).trans (BF k hk)
   have Vl:W0.heap.size<=W.heap.size:=ht.size;have EP:∀q,au U q=true↔∃p,p<64*nw/\au (Ts i) p=true/\au (Lk p) q=true:=λq=>(gX q).trans ⟨λ⟨p,h3,h4⟩=>⟨p,((iu p).1 h3).1,((iu p).1 h3).2,h4⟩,λ⟨p,h3,h4,h5⟩=>⟨p,(iu p).2 ⟨h3,h4⟩,h5⟩⟩
   have xz:∀q,q<64*nw->au U q=true->q<n:=λq hq h3=>by
    obtain⟨p,h4,h5,h6⟩:=(EP q).1 h3;exact C.lb p q (hS i p hi h4 h5) hq h6
   have CW:=C.keep (w':=W) (λk hk=>wI k (bA hk C.le)) (by omega);have fP:prog.follows .mixedOrders=true:=by kernel_rfl
   have Ls:iF i c true=2*(256*(i:Int)+(c:Int))+1:=by unfold iF;simp
   have gvl:gv<w.heap.size:=(hO gv h.ov).2;have hj:=zS nw gN ga nw nw U A W.drew ⟨hU.row,hU.lt⟩ ⟨CW.pa.1.row,CW.pa.1.lt⟩ (by have:=C.pa.2;omega) C.ic;have zBe:gN<W.heap.size:=hU.cB;refine CU _ _ (wpIn_wide.2 ?_);dsimp only;have ZL:zk _:=ht;have Z7:zk _:=wI;have Sm:zk _:=hK;clear ht wI hK CU cell
   go_wp2_with fail
   go_region_held3 (λw'=>w'.cell? ⟨w.heap.size,0,zc⟩=za (zd (za ⟨r,0,zc⟩))/\w'.cell? ⟨w2.heap.size,0,zc⟩=za (ze (za ⟨gN,0,zc⟩) nw nw)/\w'.cell? ⟨r,2,zc⟩=za (ze (za ⟨ga,0,zc⟩) nw nw)) ((first|exact⟨z3,z5,YS⟩|exact⟨n3,n5,n2⟩|go_keep)) ((go_at_call 168;refine hj.mono ?_;rintro e w3 ⟨rfl,Bt,lF⟩;have n3:=(show w3.cell? ⟨w.heap.size,0,zc⟩=W.cell? ⟨w.heap.size,0,zc⟩from World.cell?_of_block (lF.block (w.heap.size) (by show w.heap.size<W.heap.size;omega) (by intro e;have e:w.heap.size=gN:=Option.some.inj e;omega))).trans z3;have n5:=(show w3.cell? ⟨w2.heap.size,0,zc⟩=W.cell? ⟨w2.heap.size,0,zc⟩from World.cell?_of_block (lF.block (w2.heap.size) (by show w2.heap.size<W.heap.size;omega) (by intro e;have e:w2.heap.size=gN:=Option.some.inj e;omega))).trans z5;have n2:=(show w3.cell? ⟨r,2,zc⟩=W.cell? ⟨r,2,zc⟩from World.cell?_of_block (lF.block r (by show r<W.heap.size;omega) (by intro e;have e:r=gN:=Option.some.inj e;omega))).trans YS))
   have n0:=(show w3.cell? ⟨r,0,zc⟩=W.cell? ⟨r,0,zc⟩from World.cell?_of_block (lF.block r (by show r<W.heap.size;omega) (by intro e;have e:r=gN:=Option.some.inj e;omega))).trans Ru;have l9:W.heap.size<=w3.heap.size:=lF.size;have FH:∀k,k<w.heap.size->w3.heap[k]?=w.heap[k]?:=λk hk=>(lF.block k (by show k<W.heap.size;omega) (by intro e;have e:k=gN:=Option.some.inj e;omega)).trans (Z7.out k hk)
   have K3:w3.heap[D]?=za (.deferred (za [])):=(lF.block D (ah.1 Sm.out).1 (by intro e;have e:D=gN:=Option.some.inj e;omega)).trans Sm.out;have ht:=ZL.out;have Gz:=C.keep (w':=w3) (λk hk=>FH k (bA hk C.le)) (by omega);obtain⟨X,hX⟩:∃X,w3.drew=X:=⟨_,rfl⟩;have KB:X.os=w.os:=by rw[<-hX];exact(show w3.os=_ from lF.os).trans ((show W.os=_ from ht.os).trans (af.os.trans ag.os))
   have KD:X.tape=w.tape:=by rw[<-hX];exact(show w3.tape=_ from lF.tape).trans ((show W.tape=_ from ht.tape).trans (af.tape.trans ag.tape))
   have KA:X.output=w.output:=by rw[<-hX];exact(show w3.output=_ from lF.output).trans ((show W.output=_ from ht.output).trans (af.output.trans ag.output))
   have Et:w.heap.size<=X.heap.size:=by rw[<-hX];show _<=w3.heap.size;omega
   have KC:∀k,k<w.heap.size->X.heap[k]?=w.heap[k]?:=by rw[<-hX];exact FH
   have Xn:∀q,q<64*nw->au (eU U A) q=true->q<n:=λq hq h3=>by
    rw[JG,sK]at h3;exact h3.elim (xz q hq) (C.ab q hq)
   have Xq:∀q,q<64*nw->(au (eU U A) q=true↔(∃p,p<64*nw/\au (Ts i) p=true/\au (Lk p) q=true)\/(true=true/\au A q=true)):=λq _=>by
    rw[JG,sK,EP];exact or_congr Iff.rfl ⟨λh=>⟨rfl,h⟩,λh=>h.2⟩
   have fQ:=zky n nw bt gN nw c sv fv mk f (eU U A) w3.drew Gz.box (λhn=>by obtain⟨gs,cs,e1,e2,e3⟩:=Gz.Dx hn;exact⟨gs,cs,e1,by show gs<w3.heap.size;omega,e3⟩) (λp hp=>(Gz.qf p hp).1) ⟨Bt.row,Bt.lt⟩ Xn Gz.ic hc Gz.dv (by show 0<w3.heap.size;omega);rw[hX]at fQ;have xK:=λ(w5:zh) (g4:Nat) (U4:Nat->Nat) (hb:zl X.heap.size X w5) (pb:X.heap.size<=g4) (hp:aH w5 nw g4 U4) (EW:∀q,au U4 q=true↔q<64*nw/\au (eU U A) q=true/\f q c=true)=>zkd C h hM hS (b:=true) hi hc hm hk (w5:=w5) (hb.os.trans KB) (hb.tape.trans KD) (hb.output.trans KA) (aW Et hb.size) (λk hk=>(hb.block k (bA hk Et)).trans (KC k hk)) (g4:=g4) (U4:=U4) (aW Et pb) hp (λq hq=>Xn q ((EW q).1 hq).1 ((EW q).1 hq).2.1) (λq hq=>by
    rw[EW q];constructor
    ·rintro ⟨_,h3,h4⟩;exact⟨h4,(Xq q hq).1 h3⟩
    ·rintro ⟨h3,h4⟩;exact⟨hq,(Xq q hq).2 h4,h3⟩)
   simp only[Ls]at xK;have ry:zk (∀k,O k->k<w.heap.size):=λk hk=>(hO k hk).2
   have Hh:zk (xK=xK):=rfl;clear Hh h hM hS hO C C0 CW Gz HW gX iu hU h1 Ti E5 C8 b0 b1 b2 b3 b4 b5 b6 b7 c0 x0 y0 y1 y2 y5 y7 z0 yN MW II xF Ls;have X3:X.cell? ⟨w.heap.size,0,zc⟩=za (zd (za ⟨r,0,zc⟩)):=by rw[<-hX];exact n3
   have X5:X.cell? ⟨w2.heap.size,0,zc⟩=za (ze (za ⟨gN,0,zc⟩) nw nw):=by rw[<-hX];exact n5
   have X0:X.cell? ⟨r,0,zc⟩=za (zd (za ⟨bt,0,zc⟩)):=by rw[<-hX];exact n0
   have XD:X.heap[D]?=za (.deferred (za [])):=by rw[<-hX];exact K3
   have SW:D<X.heap.size:=(ah.1 XD).1;have SY:w.heap.size<X.heap.size:=by rw[<-hX];show _<w3.heap.size;omega
   have SX:w2.heap.size<X.heap.size:=by rw[<-hX];show _<w3.heap.size;omega
   have Xr:r<X.heap.size:=by omega
   have zAh:w.heap.size<=w2.heap.size:=by omega
   have TD:w.heap.size<=D:=by omega
   have R8:zk _:=XD;clear XD Sm ht Z7 ZL K3 FH EP xz KB KD KA KC Xn Xq BF hj Bt lF
   go_wp2_with fail
   go_region_held3 (λw'=>w'.cell? ⟨w.heap.size,0,zc⟩=za (zd (za ⟨r,0,zc⟩))/\w'.cell? ⟨w2.heap.size,0,zc⟩=za (ze (za ⟨gN,0,zc⟩) nw nw)/\w'.cell? ⟨r,0,zc⟩=za (zd (za ⟨bt,0,zc⟩))) ((first|exact⟨X3,X5,X0⟩|exact⟨n3,n5,n0⟩|exact⟨q3,q5,q0⟩|exact⟨p3,p5,p0⟩|go_keep)) ((first|(go_at_call 170;refine fQ.mono ?_;rintro e w5 ⟨g4,U4,rfl,pb,L8,bE,pT⟩;have q3:=(pT.cell (p:=⟨w.heap.size,0,zc⟩) SY).trans X3;have q5:=(pT.cell (p:=⟨w2.heap.size,0,zc⟩) SX).trans X5;have q0:=(pT.cell (p:=⟨r,0,zc⟩) Xr).trans X0)|(go_at_call 169;refine(xK w5 g4 U4 pT pb L8 bE).mono ?_;rintro e w6 ⟨t,W7,rfl,vh,zm6,p0,Vg,TA,HR⟩;have p3:w6.cell? ⟨w.heap.size,0,zc⟩=za (zd (za ⟨r,0,zc⟩)):=(World.cell?_of_block (vh.same w.heap.size (by have:=pT.size;omega) (λe=>by have:=ry.out _ e;omega))).trans q3;have p5:w6.cell? ⟨w2.heap.size,0,zc⟩=za (ze (za ⟨gN,0,zc⟩) nw nw):=(World.cell?_of_block (vh.same w2.heap.size (by have:=pT.size;omega) (λe=>by have:=ry.out _ e;omega))).trans q5)))
   all_goals
    have CT:W7.heap[D]?=za (.deferred (za [])):=by
     rw[TA D (by omega),vh.same D (by have:=pT.size;omega) (λe=>by have:=ry.out _ e;omega),pT.block D SW];exact R8.out
    have J4:=HR.out D TD CT;have lz:zk _:=J4;clear J4 HR xK fQ;go_wp2;refine⟨by simp,.inl ⟨_,_,rfl,run_takeDeferred CT,?_⟩⟩;exact⟨zg .i64 t,by simp[results,results147,go_sem],lz.out⟩
end
section
attribute [local go_sem ↓] wp_at_zero wp_at_succ
theorem ztp{B:Nat}{O:Nat->Prop}{w:zh}{n r nw bt ga gl:Nat}{lv sv fv:zi}{lr mk:Nat->Nat}{Lk:Nat->Nat->Nat}{A L:Nat->Nat}{f:Nat->Nat->Bool}{gm gv:Nat}{sS sP:zi}{gx:Nat->Nat}{Ts:Nat->Nat->Nat}{m:Nat}{es:List (Int×Int)}(C:pN B w n nw bt ga gl lv sv fv lr mk Lk A L f)(hO:∀k,O k->B<=k/\k<w.heap.size)(h:fF O w r nw bt ga gl lv L gm gv sS sP gx Ts m es)(hM:uk nw f Lk A Ts m es)(hS:Gv n nw Ts m)(i c:Nat)(b:Bool)(hi:i<m)(hc:c<256)(hm:m<=100000000):
  zm prog 147 #[zd (za ⟨r,0,zc⟩),zg .i64 i,.int .u8 c,.bool b] w λe w'=>JS O w n r nw bt ga gl lv f Lk A L gm gv gx Ts m i c b e w':=by
 by_cases hk:iF i c b∈eA es
 ·refine(zrZ h hM hS i c b hc hi hm hk).mono λe w' hR=>?_
  obtain⟨t,m',FG,FF,pO,iR,es',h1,h2,h3⟩:=hR;exact⟨t,m',FG,FF,pO,iR,es',h1,h2,h3⟩
 ·exact zrY C hO h hM hS i c b hi hc hm hk
def SH(w:zh)(nw bt ga gl:Nat)(lv:zi)(L:Nat->Nat)(e:Ending)(w':zh):Prop:=
 ∃(r gm gv:Nat) (sS sP:zi) (gx:Nat->Nat) (Ts:Nat->Nat->Nat),e=.returned (zd (za ⟨r,0,zc⟩))/\fF (λk=>w.heap.size<=k/\k<w'.heap.size) w' r nw bt ga gl lv L gm gv sS sP gx Ts 1 []/\(∀x,x<nw->Ts 0 x=0)/\zl w.heap.size w w'
theorem zfW(nw bt ga gl ln lc:Nat)(la:Option Addr)(sv fv:zi)(L:Nat->Nat)(w:zh)(gY:vt w bt nw sv fv)(hL:aH w nw gl L)(bY:nw<=1000):
  zm prog 161 #[zd (za ⟨bt,0,zc⟩),.slice la ln lc,ze (za ⟨ga,0,zc⟩) nw nw,ze (za ⟨gl,0,zc⟩) nw nw] w λe w'=>SH w nw bt ga gl (.slice la ln lc) L e w':=by
 obtain⟨W1,cm⟩:∃W1,((w.alloc (.map #[] 0)).alloc (.map #[] 0)).alloc (zj #[zd (za ⟨bt,0,zc⟩),.slice la ln lc,ze (za ⟨ga,0,zc⟩) nw nw,ze (za ⟨gl,0,zc⟩) nw nw,.map (za w.heap.size),ze zc 0 0,ze zc 0 0,.map (za (w.heap.size+1))] 234)=W1:=⟨_,rfl⟩;have ag:zl w.heap.size w W1:=by rw[<-cm];exact((aw).alloc (by simp) _).alloc (by simp;omega) _
 have e0:W1.heap[w.heap.size]?=za (.map #[] 0):=by rw[<-cm];exact cX (cX (aI _ _))
 have e1:W1.heap[w.heap.size+1]?=za (.map #[] 0):=by
  rw[<-cm];have:=aI (w.alloc (.map #[] 0)) (.map #[] 0);exact cX (by simpa using this)
 have e2:W1.heap[w.heap.size+1+1]?=za (zj #[zd (za ⟨bt,0,zc⟩),.slice la ln lc,ze (za ⟨ga,0,zc⟩) nw nw,ze (za ⟨gl,0,zc⟩) nw nw,.map (za w.heap.size),ze zc 0 0,ze zc 0 0,.map (za (w.heap.size+1))] 234 (0,0)):=by
  rw[<-cm];have:=aI ((w.alloc (.map #[] 0)).alloc (.map #[] 0)) (zj #[zd (za ⟨bt,0,zc⟩),.slice la ln lc,ze (za ⟨ga,0,zc⟩) nw nw,ze (za ⟨gl,0,zc⟩) nw nw,.map (za w.heap.size),ze zc 0 0,ze zc 0 0,.map (za (w.heap.size+1))] 234)
  simpa using this
 have hs:w.heap.size+1+1<W1.heap.size:=(ah.1 e2).1;have hno:=Gk nw bt sv fv W1 ((ag.block bt (ah.1 gY).1).trans gY) bY;have Dg:=λ(W:zh) (hb:zl W1.heap.size W1 W) (hp:aH W nw W1.heap.size cQ)=>zd8 (O:=λk=>w.heap.size<=k/\k<W1.heap.size) (w:=W) (r:=w.heap.size+1+1) (nw:=nw) (bt:=bt) (ga:=ga) (gl:=gl) (lv:=.slice la ln lc) (L:=L) (gm:=w.heap.size) (gv:=w.heap.size+1) (sS:=ze zc 0 0) (sP:=ze zc 0 0) (gx:=λ_=>0) (Ts:=λ_=>cQ) (m:=0) (es:=[])
  ⟨(hb.block _ hs).trans e2,(hb.block _ (by omega)).trans e0,(hb.block _ (by omega)).trans e1,⟨rfl,.inl ⟨rfl,rfl⟩⟩,⟨rfl,.inl ⟨rfl,rfl⟩⟩,λi hi=>by omega,by omega,⟨by omega,hs⟩,⟨aj _,by omega⟩,⟨by omega,by omega⟩,λk e=>by simp[Value.ownBlock]at e,λk e=>by simp[Value.ownBlock]at e,λi hi=>by omega,λi j hi=>by omega⟩
  W1.heap.size cQ hp ((hL.below ag).below hb) bY (by omega)
 clear e0 e1 e2;have kx:=@run_makeMap prog
 go_enter func161,ntmps161
 go_wp2_with (go_at_call 164;refine hno.mono ?_;rintro e w2 ⟨rfl,aQ,bU⟩)
 have ae:zl W1.heap.size W1 w2:=⟨bU.os,bU.tape,bU.output,bU.size,λk hk=>bU.block k hk (by simp)⟩;refine(Dg w2 ae aQ).mono ?_;rintro e w3 ⟨i,m',FG,FF,pO,iR,rfl,hR,hi,dw,dG,hold,pW,qM,tc⟩;have Ip:=aq ag ag.size ae;have lz:zk (SH w nw bt ga gl (.slice la ln lc) L (.returned (zd (za ⟨w.heap.size+1+1,0,zc⟩))) w3):=by
  have e1:m'=1:=by omega
  have e0:i=0:=by omega
  subst e1 e0;refine⟨_,_,_,FG,FF,pO,iR,rfl,hR.lt.mono λk ⟨ho,hl⟩=>⟨?_,hl⟩,pW,tc.os.trans Ip.os,tc.tape.trans Ip.tape,tc.output.trans Ip.output,aW Ip.size tc.size,λk hk=>?_⟩
  ·have:=ae.size;rcases ho with ho|ho|ho<;>omega
  ·rw[tc.same k (by have:=Ip.size;omega) (λe=>by omega)];exact Ip.block k hk
 clear hR hold pW qM tc Dg hno kx;go_wp2;exact bh (v:=zd (za ⟨w.heap.size+1+1,0,zc⟩)) (by simp[results,results161,go_sem]) rfl lz.out
def PA.Tk(M:PA)(L:aJ->Prop):Prop:=Good M.tk M.fol M.D M.e M.first M.last L
section
variable {M N:PA} {L K:aJ->Prop}
theorem JC(h:M.Tk L)(e:∀u,L u↔K u):M.Tk K:=Good.words h e
theorem zud(h:M.Tk L):M.uZ.Tk (λu=>u=[]\/L u):=Good.uZ h
theorem zqo(h:M.Tk L)(dj:∀p,M.D p->¬N.D p):Good (λp c=>(M.D p/\M.tk p c)\/(N.D p/\N.tk p c)) (λp q=>(M.D p/\M.fol p q)\/(N.D p/\N.fol p q)) M.D M.e M.first M.last L:=
 (Good.congr h λp _ hp=>⟨λk=>k.elim (λx=>x.2) (λx=>absurd x.1 (dj p hp)),λk=>.inl ⟨hp,k⟩⟩).tk λp _ hp=>⟨λk=>k.elim (λx=>x.2) (λx=>absurd x.1 (dj p hp)),λk=>.inl ⟨hp,k⟩⟩
theorem zmP(h:N.Tk K)(dj:∀p,M.D p->¬N.D p):Good (λp c=>(M.D p/\M.tk p c)\/(N.D p/\N.tk p c)) (λp q=>(M.D p/\M.fol p q)\/(N.D p/\N.fol p q)) N.D N.e N.first N.last K:=
 (Good.congr h λp _ hp=>⟨λk=>k.elim (λx=>absurd hp (dj p x.1)) (λx=>x.2),λk=>.inr ⟨hp,k⟩⟩).tk λp _ hp=>⟨λk=>k.elim (λx=>absurd hp (dj p x.1)) (λx=>x.2),λk=>.inr ⟨hp,k⟩⟩
theorem zuc(h:M.Tk L)(k:N.Tk K)(dj:∀p,M.D p->¬N.D p):(M.aN N).Tk (λu=>L u\/K u):=zq1 (zqo h dj) (zmP k dj) dj
theorem YR(h:M.Tk L)(k:N.Tk K)(dj:∀p,M.D p->¬N.D p):(M.seq N).Tk (λu=>∃x y,u=x++y/\L x/\K y):=zq3 (zqo h dj) (zmP k dj) dj (λ_ _ _=>Iff.rfl) (λ_=>Iff.rfl) (λ_=>Iff.rfl)
theorem ztD(h:M.Tk L):M.star.Tk (λu=>∃k,Pow L k u):=zo7 h λ_ _ _=>Iff.rfl
end
theorem zue{f:Nat->PA}{c:Nat}{L:aJ->Prop}(hf:∀s,(f s).Tk L)(hD:∀s p,(f s).D p↔s<=p/\p<s+c)(n:Nat):∀j,(yi f c n j).Tk (Ky L j)
 |0=>JC (zo6 _ _ (true=true)) λu=>⟨λh=>(zkB L u).1 ⟨h.1,trivial⟩,λh=>⟨((zkB L u).2 h).1,rfl⟩⟩
 |j+1=>JC (zud (YR (hf _) (zue hf hD n j) λp h1 h2=>by rw[hD]at h1;rw[JU hD]at h2;omega)) λu=>zqs L j u
theorem YW{f:Nat->PA}{c:Nat}{y:PA}{n s:Nat}{L K:aJ->Prop}(hf:∀s,(f s).Tk L)(hD:∀s p,(f s).D p↔s<=p/\p<s+c)(hy:y.Tk K)(hyD:∀p,y.D p↔n<=p/\p<s)(hs:n<=s):∀k,(vK f c y s k).Tk (JP L K k)
 |0=>JC hy λu=>zm0 L K u
 |k+1=>JC (YR (hf _) (YW hf hD hy hyD hs k) λp h1 h2=>by rw[hD]at h1;rw[JT hD hyD hs]at h2;omega) λu=>zmZ L K k u
theorem yt:∀(p:Pt),oT p->∀n,(cj p n).Tk (In p)
 |.set f,_,n=>zq2 (λc=>⟨λh=>h.2,λh=>⟨rfl,h⟩⟩) (λ_ h=>h)
 |.seq l r,ho,n=>YR (yt l ho.1 n) (yt r ho.2 _) λp h1 h2=>by rw[lQ]at h1 h2;omega
 |.aN l r,ho,n=>zuc (yt l ho.1 n) (yt r ho.2 _) λp h1 h2=>by rw[lQ]at h1 h2;omega
 |.az b mn mx,ho,n=>by
  obtain⟨h1,h2,h3⟩:=ho;obtain⟨m,rfl⟩:∃m:Nat,mn=m:=⟨mn.toNat,by omega⟩
  by_cases h:mx=-1
  ·subst h;rw[<-zke];exact JC (YW (n:=n) (yt b h1) (lQ b) (ztD (yt b h1 n)) (zsG b n) (by omega) m) (zr7 b m)
  ·obtain⟨d,rfl⟩:∃d:Nat,mx=((m+d:Nat):Int):=⟨(mx-m).toNat,by omega⟩;rw[<-zkf];exact JC (YW (n:=n) (yt b h1) (lQ b) (zue (yt b h1) (lQ b) n d) (JU (lQ b) n d) (by omega) m) (zr8 b m d)
 |.aT b _,ho,n=>yt b ho n
theorem zst(b:Pt)(n:Nat):cj (.az b 0 (-1)) n=(cj b n).star:=by
 rw[cj,aC rfl];rfl
inductive gU (u:aJ) (M:PA) (E:Nat->Prop):Nat->Nat->Prop
 |stop (i p:Nat) (c:UInt8):u[i]?=za c->M.tk p c->M.D p->M.last p->E (i+1)->gU u M E i p
 |on (i p q:Nat) (c:UInt8):u[i]?=za c->M.tk p c->M.D p->M.fol p q->gU u M E (i+1) q->gU u M E i p
def jg(u:aJ)(M:PA)(i j p:Nat):Prop:=i<j/\j<=u.length/\cU M.tk M.fol M.first ((u.drop i).take (j-i)) p
theorem zh7(u:aJ){i j:Nat}{c:UInt8}(h:i<=j)(hc:u[j]?=za c):(u.drop i).take (j+1-i)=(u.drop i).take (j-i)++[c]:=by
 have hj:=(zY.1 hc).1;rw[Xe u h (Nat.le_succ j),show j+1-j=1 from by omega,oK hj];have:u[j]=c:=(zY.1 hc).2;rw[this]
 rfl
theorem zmJ(u:aJ){i j:Nat}(h:i<j)(hj:j<=u.length):(u.drop i).take (j-i)≠[]:=by
 intro e;have:=congrArg List.length e;simp at this;omega
theorem Rg{u:aJ}{M:PA}{i p:Nat}{c:UInt8}(hc:u[i]?=za c):jg u M i (i+1) p↔M.first p/\M.tk p c:=by
 have hj:=(zY.1 hc).1;unfold jg;rw[zh7 u (aj i) hc,Aa];show i<i+1/\i+1<=u.length/\cU M.tk M.fol M.first [c] p↔_;rw[ztw];exact⟨λh=>h.2.2,λh=>⟨by omega,hj,h⟩⟩
theorem Nq{u:aJ}{M:PA}{i j q:Nat}{c:UInt8}(dL:i<j)(hc:u[j]?=za c):jg u M i (j+1) q↔∃p,jg u M i j p/\M.fol p q/\M.tk q c:=by
 have hj:=(zY.1 hc).1;unfold jg;rw[zh7 u (Nat.le_of_lt dL) hc,zsc (zmJ u dL (by omega))];constructor
 ·rintro ⟨-,-,p,h1,h2⟩;exact⟨p,⟨dL,by omega,h1⟩,h2⟩
 ·rintro ⟨p,⟨-,-,h1⟩,h2⟩;exact⟨by omega,hj,p,h1,h2⟩
theorem YJ{u:aJ}{M:PA}{p:Pt}(h:M.Tk (In p)){i j:Nat}(dL:i<j)(hj:j<=u.length):Lg u p i j↔∃q,jg u M i j q/\M.last q:=by
 unfold Lg jg;rw[<-h.mj,zqG (zmJ u dL hj)];exact⟨λ⟨_,_,q,h1,h2⟩=>⟨q,⟨dL,hj,h1⟩,h2⟩,λ⟨q,⟨_,_,h1⟩,h2⟩=>⟨by omega,hj,q,h1,h2⟩⟩
theorem YD{u:aJ}{M:PA}{p:Pt}(h:M.Tk (In p)){i:Nat}(hi:i<=u.length):Lg u p i i↔M.e:=by
 unfold Lg;rw[Aa,ue,<-h.mj,zsL];exact⟨λh=>h.2.2,λh=>⟨aj _,hi,h⟩⟩
theorem zqZ{u:aJ}{M:PA}{E:Nat->Prop}:∀{j p:Nat},gU u M E j p->∀i,i<j+1->jg u M i (j+1) p->∃m q,j<m/\E m/\jg u M i m q/\M.last q:=by
 intro j p h
 induction h with
 |stop j p c h1 h2 h3 h4 h5=>intro i hi hf;exact⟨j+1,p,by omega,h5,hf,h4⟩
 |on j p q c h1 h2 h3 h4 h5 ih=>
  intro i hi hf;have hc:∃d,u[j+1]?=za d/\M.tk q d:=by
   cases h5 with
   |stop _ _ d a b=>exact⟨d,a,b⟩
   |on _ _ _ d a b=>exact⟨d,a,b⟩
  obtain⟨d,hd,hq⟩:=hc;obtain⟨m,r,a,b,c,e⟩:=ih i (by omega) ((Nq hi hd).2 ⟨p,hf,h4,hq⟩);exact⟨m,r,by omega,b,c,e⟩
theorem zoq{u:aJ}{M:PA}{E:Nat->Prop}{i p:Nat}{c:UInt8}(hc:u[i]?=za c):gU u M E i p↔M.tk p c/\M.D p/\((M.last p/\E (i+1))\/∃q,M.fol p q/\gU u M E (i+1) q):=by
 constructor
 ·intro h;cases h with
  |stop _ _ d a b e f g=>rw[hc]at a;cases a;exact⟨b,e,.inl ⟨f,g⟩⟩
  |on _ _ q d a b e f g=>rw[hc]at a;cases a;exact⟨b,e,.inr ⟨q,f,g⟩⟩
 ·rintro ⟨h1,h2,⟨h3,h4⟩|⟨q,h3,h4⟩⟩
  ·exact .stop i p c hc h1 h2 h3 h4
  ·exact .on i p q c hc h1 h2 h3 h4
theorem gU.byte{u:aJ}{M:PA}{E:Nat->Prop}{i p:Nat}(h:gU u M E i p):∃c,u[i]?=za c/\M.tk p c/\M.D p:=by
 cases h with
 |stop _ _ d a b c=>exact⟨d,a,b,c⟩
 |on _ _ _ d a b c=>exact⟨d,a,b,c⟩
theorem jg.byte{u:aJ}{M:PA}{i j p:Nat}(h:jg u M i (j+1) p)(dL:i<=j):∃c,u[j]?=za c/\M.tk p c:=by
 have hj:=h.2.1;obtain⟨c,hc⟩:∃c,u[j]?=za c:=⟨_,dh (by omega)⟩;refine⟨c,hc,?_⟩
 by_cases e:i<j
 ·obtain⟨_,_,_,h⟩:=(Nq e hc).1 h;exact h
 ·obtain rfl:i=j:=by omega
  exact((Rg hc).1 h).2
theorem XO{u:aJ}{M N:PA}{E:Nat->Prop}(hD:∀p,M.D p->N.D p)(ht:∀p c,M.tk p c->N.tk p c)(hf:∀p q,M.fol p q->N.fol p q)(fi:∀p,M.first p->M.D p)(fo:∀p q,M.D p->M.fol p q->M.D q){i:Nat}:∀(k x q:Nat),jg u M i (x+1) q->gU u N E x q->∀j,j+k=x->i<=j->∃p,jg u M i (j+1) p/\gU u N E j p
 |0,x,q,h1,h2,j,hj,_=>by
  obtain rfl:j=x:=hj;exact⟨q,h1,h2⟩
 |k+1,x,q,h1,h2,j,hj,dL=>by
  obtain⟨y,rfl⟩:∃y,x=y+1:=⟨x-1,by omega⟩;obtain⟨c,hc,_⟩:=h1.byte (by omega);obtain⟨p,h3,h4,_⟩:=(Nq (by omega) hc).1 h1;obtain⟨d,hd,fQ⟩:=h3.byte (by omega);exact XO hD ht hf fi fo k y p h3 (.on y p q d hd (ht _ _ fQ) (hD _ (h3.2.2.inside fi fo)) (hf _ _ h4) h2) j (by omega) dL
def AB(u:aJ)(M:PA)(E:Nat->Prop)(m:Nat):Prop:=(E m/\M.e)\/∃p,M.first p/\gU u M E m p
theorem zub{u:aJ}{M:PA}{p:Pt}(h:M.Tk (In p)){E:Nat->Prop}(hE:∀m,E m->m<=u.length)(m:Nat):AB u M E m↔∃e,E e/\Lg u p m e:=by
 constructor
 ·rintro (⟨h1,h2⟩|⟨q,h1,h2⟩)
  ·exact⟨m,h1,(YD h (hE m h1)).2 h2⟩
  ·obtain⟨c,hc,fQ,_⟩:=h2.byte;obtain⟨x,r,a,b,c',d⟩:=zqZ h2 m (by omega) ((Rg hc).2 ⟨h1,fQ⟩);exact⟨x,b,(YJ h (by omega) (hE x b)).2 ⟨r,c',d⟩⟩
 ·rintro ⟨e,h1,h2⟩;have tH:=h2.1;rcases ig m e with hlt|fY
  ·obtain⟨q,h3,h4⟩:=(YJ h hlt (hE e h1)).1 h2;obtain⟨x,rfl⟩:∃x,e=x+1:=⟨e-1,by omega⟩;obtain⟨c,hc,fQ⟩:=h3.byte (by omega);obtain⟨r,h5,h6⟩:=XO (N:=M) (E:=E) (λ_ h=>h) (λ_ _ h=>h) (λ_ _ h=>h) h.fi h.fo (x-m) x q h3 (.stop x q c hc fQ (h3.2.2.inside h.fi h.fo) h4 h1) m (by omega) (aj _);obtain⟨d,hd,_⟩:=h6.byte;exact .inr ⟨r,((Rg hd).1 h5).1,h6⟩
  ·obtain rfl:m=e:=by omega
   exact .inl ⟨h1,(YD h (hE m h1)).1 h2⟩
theorem zp7{u:aJ}{M:PA}{L:aJ->Prop}(h:M.Tk L){E:Nat->Prop}{i m q:Nat}(hf:jg u M i m q)(hl:M.last q)(hs:AB u M.star E m)(j:Nat)(dL:i<=j)(UD:j<m):∃p,jg u M i (j+1) p/\gU u M.star E j p:=by
 obtain⟨x,rfl⟩:∃x,m=x+1:=⟨m-1,by omega⟩;obtain⟨c,hc,fQ⟩:=hf.byte (by omega);have hD:=hf.2.2.inside h.fi h.fo;refine XO (M:=M) (N:=M.star) (E:=E) (λ_ h=>h) (λ_ _ h=>h) (λ_ _ h=>.inl h) h.fi h.fo (x-j) x q hf ?_ j (by omega) dL;rcases hs with ⟨h1,_⟩|⟨p,h1,h2⟩
 ·exact .stop x q c hc fQ hD hl h1
 ·exact .on x q p c hc fQ hD (.inr ⟨hl,h1⟩) h2
def sD(nw:Nat)(T:Nat->Nat)(P:Nat->Prop):Prop:=∀q,q<64*nw->(au T q=true↔P q)
structure pF(M:PA)(n nw:Nat)(f:Nat->Nat->Bool)(F G:Nat->Nat->Nat)(X Y:Nat->Nat):Prop where
 kE:n<=64*nw
 D:∀p,M.D p↔p<n
 fi:∀p,M.first p->M.D p
 la:∀p,M.last p->M.D p
 fo:∀p q,M.D p->M.fol p q->M.D q
 tk:∀p (c:UInt8),p<n->(M.tk p c↔f p c.toNat=true)
 fw:∀p q,p<n->q<64*nw->(au (F p) q=true↔M.fol p q)
 bw:∀p q,p<n->q<n->(au (G p) q=true↔M.fol q p)
 xs:∀q,q<64*nw->(au X q=true↔M.first q)
 ys:∀q,q<64*nw->(au Y q=true↔M.last q)
section
variable {M:PA} {n nw:Nat} {f:Nat->Nat->Bool} {F G:Nat->Nat->Nat} {X Y:Nat->Nat} {u:aJ} {E:Nat->Prop}
theorem gU.lt(h:pF M n nw f F G X Y){i p:Nat}(hb:gU u M E i p):p<n:=by
 obtain⟨_,_,_,h1⟩:=hb.byte;exact(h.D p).1 h1
theorem zop(h:pF M n nw f F G X Y){i:Nat}{c:UInt8}(hc:u[i]?=za c){T U:Nat->Nat}{b:Bool}(hb:b=true↔E (i+1))(TY:∀q,q<64*nw->au T q=true->q<n)(xz:∀q,q<64*nw->au U q=true->q<n)(hT:sD nw T (gU u M E (i+1)))(hs:yv nw f G Y T c.toNat b U):sD nw U (gU u M E i):=λq hq=>by
 have hn:=h.kE;rw[hs q hq,zoq hc];constructor
 ·rintro ⟨h1,h2⟩;have tK:q<n:=xz q hq ((hs q hq).2 ⟨h1,h2⟩);refine⟨(h.tk q c tK).2 h1,(h.D q).2 tK,?_⟩;rcases h2 with ⟨p,h3,h4,h5⟩|⟨h3,h4⟩
  ·have jn:=TY p h3 h4;exact .inr ⟨p,(h.bw p q jn tK).1 h5,(hT p h3).1 h4⟩
  ·exact .inl ⟨(h.ys q hq).1 h4,hb.1 h3⟩
 ·rintro ⟨h1,h2,h3⟩;have tK:=(h.D q).1 h2;refine⟨(h.tk q c tK).1 h1,?_⟩;rcases h3 with ⟨h3,h4⟩|⟨p,h3,h4⟩
  ·exact .inr ⟨hb.2 h4,(h.ys q hq).2 h3⟩
  ·have jn:=gU.lt h h4;exact .inl ⟨p,by omega,(hT p (by omega)).2 h4,(h.bw p q jn tK).2 h3⟩
theorem zq0(h:pF M n nw f F G X Y){i j:Nat}(dL:i<=j){c:UInt8}(hc:u[j]?=za c){T U:Nat->Nat}{b:Bool}(hb:b=true↔j=i)(TY:∀q,q<64*nw->au T q=true->q<n)(xz:∀q,q<64*nw->au U q=true->q<n)(hT:sD nw T (jg u M i j))(hs:yv nw f F X T c.toNat b U):sD nw U (jg u M i (j+1)):=λq hq=>by
 have hn:=h.kE;rw[hs q hq]
 by_cases e:i<j
 ·rw[Nq e hc];constructor
  ·rintro ⟨h1,h2⟩;have tK:q<n:=xz q hq ((hs q hq).2 ⟨h1,h2⟩);rcases h2 with ⟨p,h3,h4,h5⟩|⟨h3,_⟩
   ·exact⟨p,(hT p h3).1 h4,(h.fw p q (TY p h3 h4) hq).1 h5,(h.tk q c tK).2 h1⟩
   ·have:=hb.1 h3;omega
  ·rintro ⟨p,h1,h2,h3⟩;have hpD:=h1.2.2.inside h.fi h.fo;have jn:=(h.D p).1 hpD;have tK:=(h.D q).1 (h.fo p q hpD h2);exact⟨(h.tk q c tK).1 h3,.inl ⟨p,by omega,(hT p (by omega)).2 h1,(h.fw p q jn hq).2 h2⟩⟩
 ·obtain rfl:i=j:=by omega
  rw[Rg hc];constructor
  ·rintro ⟨h1,h2⟩;have tK:q<n:=xz q hq ((hs q hq).2 ⟨h1,h2⟩);rcases h2 with ⟨p,h3,h4,_⟩|⟨_,h3⟩
   ·have:=((hT p h3).1 h4).1;omega
   ·exact⟨(h.xs q hq).1 h3,(h.tk q c tK).2 h1⟩
  ·rintro ⟨h1,h2⟩;have tK:=(h.D q).1 (h.fi q h1);exact⟨(h.tk q c tK).1 h2,.inr ⟨hb.2 rfl,(h.xs q hq).2 h1⟩⟩
theorem zjm{hi:Nat}(hE:∀m,E m->m<=hi){i p:Nat}(h:gU u M E i p):i<hi:=by
 induction h with
 |stop i p c h1 h2 h3 h4 h5=>have:=hE _ h5;omega
 |on i p q c h1 h2 h3 h4 h5 ih=>omega
theorem zqK{k:Nat}(hE:∀m,m<=k->¬E m)(hk:∀p,¬gU u M E k p){i p:Nat}(h:gU u M E i p):k<i:=by
 induction h with
 |stop i p c h1 h2 h3 h4 h5=>
  rcases ig k i with a|a
  ·exact a
  ·rcases ig k (i+1) with b|b
   ·obtain rfl:i=k:=by omega
    exact absurd (.stop i p c h1 h2 h3 h4 h5) (hk p)
   ·exact absurd h5 (hE _ b)
 |on i p q c h1 h2 h3 h4 h5 ih=>
  rcases ig k i with a|a
  ·exact a
  ·obtain rfl:i=k:=by omega
   exact absurd (.on i p q c h1 h2 h3 h4 h5) (hk p)
theorem zsh(h:pF M n nw f F G X Y){T:Nat->Nat}(hl:∀x,T x<18446744073709551616){i:Nat}(hT:sD nw T (gU u M E i)):AB u M E i↔(E i/\M.e)\/kO nw T X=true:=by
 have hn:=h.kE;rw[XG nw T X hl];refine or_congr Iff.rfl ⟨λ⟨p,h1,h2⟩=>?_,λ⟨p,h1,h2,h3⟩=>⟨p,(h.xs p h1).1 h3,(hT p h1).1 h2⟩⟩;have:=gU.lt h h2;exact⟨p,by omega,(hT p (by omega)).2 h2,(h.xs p (by omega)).2 h1⟩
theorem zqS(h:pF M n nw f F G X Y){T:Nat->Nat}(hl:∀x,T x<18446744073709551616){i j:Nat}(hT:sD nw T (jg u M i j)):(∃p,jg u M i j p/\M.last p)↔kO nw T Y=true:=by
 have hn:=h.kE;rw[XG nw T Y hl];refine⟨λ⟨p,h1,h2⟩=>?_,λ⟨p,h1,h2,h3⟩=>⟨p,(hT p h1).1 h2,(h.ys p h1).1 h3⟩⟩;have:=(h.D p).1 (h.la p h2);exact⟨p,by omega,(hT p (by omega)).2 h1,(h.ys p (by omega)).2 h2⟩
end
section
variable {s n nw bt ga gl:Nat}{w w':zh}{lv:zi}{Lk:Nat -> Nat -> Nat}{A L:Nat -> Nat}{f:Nat -> Nat -> Bool}{O:Nat -> Prop}
structure eE where
 b0:Nat
 B:Nat
 n:Nat
 nw:Nat
 bt:Nat
 ga:Nat
 gl:Nat
 sv:zi
 fa:Option Addr
 fc:Nat
 ba:Option Addr
 bc:Nat
 fr:Nat->Nat
 br:Nat->Nat
 mr:Nat->Nat
 f:Nat->Nat->Bool
 F:Nat->Nat->Nat
 G:Nat->Nat->Nat
 A:Nat->Nat
 L:Nat->Nat
 e:Bool
structure cz where
 r:Nat
 gm:Nat
 gv:Nat
 sS:zi
 sP:zi
 gx:Nat->Nat
 Ts:Nat->Nat->Nat
 m:Nat
 es:List (Int×Int)
structure Er(w:zh)(s:Nat)(v:eE):Prop where
 c1:pN v.B w v.n v.nw v.bt v.ga v.gl (.slice v.fa v.n v.fc) v.sv (.slice v.fa v.n v.fc) v.fr v.mr v.F v.A v.L v.f
 c2:pN v.B w v.n v.nw v.bt v.gl v.ga (.slice v.ba v.n v.bc) v.sv (.slice v.fa v.n v.fc) v.br v.mr v.G v.L v.A v.f
 p0:0<v.b0
 s0:v.b0<=s
 s1:s<v.B
 tb:v.b0<=v.bt
 ab:v.b0<=v.ga
 lb:v.b0<=v.gl
 sb:∀k,v.sv.ownBlock=za k->v.b0<=k/\k≠s
 fb:∀k,(Value.slice v.fa v.n v.fc).ownBlock=za k->v.b0<=k/\k≠s
 bb:∀k,(Value.slice v.ba v.n v.bc).ownBlock=za k->v.b0<=k/\k≠s
 Ia:∀p,p<v.n->v.b0<=v.fr p
 HH:∀p,p<v.n->v.b0<=v.br p
 ne:v.bt≠s/\v.ga≠s/\v.gl≠s/\∀p,p<v.n->v.fr p≠s/\v.br p≠s
theorem pN.zxW{B b0:Nat}{sv fv:zi}{lr mk:Nat->Nat}(h:pN B w n nw bt ga gl lv sv fv lr mk Lk A L f)
  (h1:b0<=bt/\bt≠s) (h2:b0<=ga/\ga≠s) (h3:b0<=gl/\gl≠s) (h4:∀k,sv.ownBlock=za k->b0<=k/\k≠s) (h5:∀k,lv.ownBlock=za k->b0<=k/\k≠s) (h6:∀p,p<n->b0<=lr p/\lr p≠s)
  (hk:∀k,b0<=k->k<B->k≠s->w'.heap[k]?=w.heap[k]?) (hm:bJ w w') (hz:w'.heap[0]?=w.heap[0]?) (hs:B<=w'.heap.size):pN B w' n nw bt ga gl lv sv fv lr mk Lk A L f:=by
 have hc:∀k o,b0<=k->k<B->k≠s->w'.cell? ⟨k,o,zc⟩=w.cell? ⟨k,o,zc⟩:=λk o g1 g2 g3=>World.cell?_of_block (hk k g1 g2 g3)
 have hp:∀{g:Nat} {T:Nat->Nat},aH w nw g T->b0<=g->g<B->g≠s->aH w' nw g T:=λh g1 g2 g3=>⟨(hk _ g1 g2 g3).trans h.row,h.lt⟩
 refine⟨(hk bt h1.1 h.AP h1.2).trans h.box,h.AP,λhn=>?_,λp hn=>⟨hm _ _ (h.qf p hn).1,(h.qf p hn).2⟩,λhn=>?_,λp hn=>⟨hp (h.wE p hn).1 (h6 p hn).1 (h.wE p hn).2 (h6 p hn).2,(h.wE p hn).2⟩,⟨hp h.pa.1 h2.1 h.pa.2 h2.2,h.pa.2⟩,⟨hp h.pl.1 h3.1 h.pl.2 h3.2,h.pl.2⟩,h.dv.keep hz,h.pos,hs,h.kE,h.ic,h.lb,h.ab⟩
 ·obtain⟨gs,cs,e,hl,k⟩:=h.Dx hn;have:=h4 gs (by rw[e];rfl);exact⟨gs,cs,e,hl,λp hp=>(hc _ _ this.1 hl this.2).trans (k p hp)⟩
 ·obtain⟨gs,cs,e,hl,k⟩:=h.MG hn;have:=h5 gs (by rw[e];rfl);exact⟨gs,cs,e,hl,λp hp=>(hc _ _ this.1 hl this.2).trans (k p hp)⟩
theorem Er.keep{v:eE}(h:Er w s v)(hk:∀k,v.b0<=k->k<v.B->k≠s->w'.heap[k]?=w.heap[k]?)(hm:bJ w w')(hz:w'.heap[0]?=w.heap[0]?)(hs:w.heap.size<=w'.heap.size):Er w' s v:=
 ⟨h.c1.zxW (s:=s) ⟨h.tb,h.ne.1⟩ ⟨h.ab,h.ne.2.1⟩ ⟨h.lb,h.ne.2.2.1⟩ h.sb h.fb (λp hp=>⟨h.Ia p hp,(h.ne.2.2.2 p hp).1⟩) hk hm hz (aW h.c1.le hs),h.c2.zxW (s:=s) ⟨h.tb,h.ne.1⟩ ⟨h.lb,h.ne.2.2.1⟩ ⟨h.ab,h.ne.2.1⟩ h.sb h.bb (λp hp=>⟨h.HH p hp,(h.ne.2.2.2 p hp).2⟩) hk hm hz (aW h.c2.le hs),h.p0,h.s0,h.s1,h.tb,h.ab,h.lb,h.sb,h.fb,h.bb,h.Ia,h.HH,h.ne⟩
structure qA(O:Nat->Prop)(w:zh)(n nw bt ga gl:Nat)(lv:zi)(f:Nat->Nat->Bool)(Lk:Nat->Nat->Nat)(A L:Nat->Nat)(v:cz):Prop where
 s:fF O w v.r nw bt ga gl lv L v.gm v.gv v.sS v.sP v.gx v.Ts v.m v.es
 mv:uk nw f Lk A v.Ts v.m v.es
 FJ:Gv n nw v.Ts v.m
 zero:∀x,x<nw->v.Ts 0 x=0
 pos:0<v.m
theorem qA.keep{v:cz}(h:qA O w n nw bt ga gl lv f Lk A L v)(hk:∀k,O k->k<w.heap.size->w'.heap[k]?=w.heap[k]?):qA O w' n nw bt ga gl lv f Lk A L v:=
 ⟨h.s.keep hk,h.mv,h.FJ,h.zero,h.pos⟩
def BS(v:eE)(x y:zi):Array zi:=#[zd (za ⟨v.bt,0,zc⟩),.bool v.e,ze (za ⟨v.ga,0,zc⟩) v.nw v.nw,ze (za ⟨v.gl,0,zc⟩) v.nw v.nw,.slice v.ba v.n v.bc,x,y]
structure gW(O1 O2:Nat->Prop)(w:zh)(s:Nat)(v:eE)(a b:cz):Prop where
 box:w.heap[s]?=za (zj (BS v (zd (za ⟨a.r,0,zc⟩)) (zd (za ⟨b.r,0,zc⟩))) 229 (0,0))
 c:Er w s v
 ra:qA O1 w v.n v.nw v.bt v.ga v.gl (.slice v.fa v.n v.fc) v.f v.F v.A v.L a
 rb:qA O2 w v.n v.nw v.bt v.gl v.ga (.slice v.ba v.n v.bc) v.f v.G v.L v.A b
 o1:∀k,O1 k->v.B<=k/\k<w.heap.size
 o2:∀k,O2 k->v.B<=k/\k<w.heap.size
 FA:∀k,O1 k->¬O2 k
theorem gW.keep{O1 O2:Nat->Prop}{v:eE}{a b:cz}(h:gW O1 O2 w s v a b)(hk:∀k,(v.b0<=k/\k<v.B)\/O1 k\/O2 k->w'.heap[k]?=w.heap[k]?)(hm:bJ w w')(hz:w'.heap[0]?=w.heap[0]?)(hs:w.heap.size<=w'.heap.size):gW O1 O2 w' s v a b:=
 ⟨(hk s (.inl ⟨h.c.s0,h.c.s1⟩)).trans h.box,h.c.keep (λk h1 h2 _=>hk k (.inl ⟨h1,h2⟩)) hm hz hs,h.ra.keep λk h1 _=>hk k (.inr (.inl h1)),h.rb.keep λk h1 _=>hk k (.inr (.inr h1)),λk h1=>⟨(h.o1 k h1).1,bA (h.o1 k h1).2 hs⟩,λk h1=>⟨(h.o2 k h1).1,bA (h.o2 k h1).2 hs⟩,h.FA⟩
theorem mB{g:Nat}{a0 a1 a2 a3 a4 a5 a6:zi}{t:zo}(h:w.heap[g]?=za (zj #[a0,a1,a2,a3,a4,a5,a6] t (0,0))):w.cell? ⟨g,0,zc⟩=za a0/\w.cell? ⟨g,1,zc⟩=za a1/\w.cell? ⟨g,2,zc⟩=za a2/\w.cell? ⟨g,3,zc⟩=za a3/\w.cell? ⟨g,4,zc⟩=za a4/\w.cell? ⟨g,5,zc⟩=za a5/\w.cell? ⟨g,6,zc⟩=za a6:=by
 have:∀o,w.cell? ⟨g,o,zc⟩=#[a0,a1,a2,a3,a4,a5,a6][o]?:=λ_=>aM _ _ _ _ _ _ h
 exact⟨this 0,this 1,this 2,this 3,this 4,this 5,this 6⟩
theorem qA.first{r gm gv:Nat}{sS sP:zi}{gx:Nat->Nat}{Ts:Nat->Nat->Nat}(h:fF O w r nw bt ga gl lv L gm gv sS sP gx Ts 1 [])(hz:∀x,x<nw->Ts 0 x=0):qA O w n nw bt ga gl lv f Lk A L ⟨r,gm,gv,sS,sP,gx,Ts,1,[]⟩:=by
 refine⟨h,λk hk=>by simp[eA]at hk,λi q hi hq hb=>?_,hz,by simp⟩;have e:i=0:=by simp at hi;omega
 subst e;have:=hz (q/64) (by omega);unfold au at hb;simp[this]at hb
end
def Y3(w:zh)(s:Nat)(v:eE)(w':zh):Prop:=
 ∃(a b:cz) (O1 O2:Nat->Prop),gW O1 O2 w' s v a b/\a.m=1/\b.m=1/\(∀k,O1 k\/O2 k->w.heap.size<=k)/\ap (· = s) w w'
theorem zjH(s:Nat)(v:eE)(x y:zi)(w:zh)(gY:w.heap[s]?=za (zj (BS v x y) 229 (0,0)))(hC:Er w s v):
  zm prog 141 #[zd (za ⟨s,0,zc⟩)] w λe w'=>e=.returned (.tuple #[])/\Y3 w s v w':=by
 obtain⟨c0,c1,c2,c3,c4,c5,c6⟩:=mB gY;have f5:=cT _ _ 5 _ _ gY;obtain⟨t0,t1,t2,-⟩:=ci hC.c1.box;have mf:s<w.heap.size:=(ah.1 gY).1;have rT:=zfW v.nw v.bt v.ga v.gl v.n v.fc v.fa v.sv (.slice v.fa v.n v.fc) v.L w.drew hC.c1.box ⟨hC.c1.pl.1.row,hC.c1.pl.1.lt⟩ hC.c1.ic;have n8:∀(w1:zh),zl w.drew.heap.size w.drew w1->∀(r1:Nat),zm prog 161 #[zd (za ⟨v.bt,0,zc⟩),.slice v.ba v.n v.bc,ze (za ⟨v.gl,0,zc⟩) v.nw v.nw,ze (za ⟨v.ga,0,zc⟩) v.nw v.nw] (w1.setCell ⟨s,5,zc⟩ (zd (za ⟨r1,0,zc⟩))).drew λe w2=>SH (w1.setCell ⟨s,5,zc⟩ (zd (za ⟨r1,0,zc⟩))).drew v.nw v.bt v.gl v.ga (.slice v.ba v.n v.bc) v.A e w2:=λw1 hb r1=>by
  have hk:∀k,k<w.heap.size->k≠s->(w1.setCell ⟨s,5,zc⟩ (zd (za ⟨r1,0,zc⟩))).heap[k]?=w.heap[k]?:=λk h1 h2=>by
   rw[cH _ _ _ _ (show k≠s from h2)];exact hb.block k h1
  have hle:=hC.c1.le;have h1:=hC.c1.AP;have h2:=hC.c1.pa.2;exact zfW v.nw v.bt v.gl v.ga v.n v.bc v.ba v.sv (.slice v.fa v.n v.fc) v.A _ ((hk v.bt (by omega) hC.ne.1).trans hC.c1.box) ⟨(hk v.ga (by omega) hC.ne.2.1).trans hC.c1.pa.1.row,hC.c1.pa.1.lt⟩ hC.c1.ic
 have lz:zk (∀w1 r1 KP KT MT MR KW G5,zl w.drew.heap.size w.drew w1->fF (λk=>w.heap.size<=k/\k<w1.heap.size) w1 r1 v.nw v.bt v.ga v.gl (.slice v.fa v.n v.fc) v.L KP KT MT MR KW G5 1 []->(∀x,x<v.nw->G5 0 x=0)->
   ∀w2 r2 KQ KV MU MS KX G6,zl w1.heap.size (w1.setCell ⟨s,5,zc⟩ (zd (za ⟨r1,0,zc⟩))).drew w2->fF (λk=>w1.heap.size<=k/\k<w2.heap.size) w2 r2 v.nw v.bt v.gl v.ga (.slice v.ba v.n v.bc) v.A KQ KV MU MS KX G6 1 []->(∀x,x<v.nw->G6 0 x=0)->
   Y3 w s v (w2.setCell ⟨s,6,zc⟩ (zd (za ⟨r2,0,zc⟩)))):=by
  intro w1 r1 KP KT MT MR KW G5 ag A9 aO w2 r2 KQ KV MU MS KX G6 ae pR aQ;have s1:w.heap.size<=w1.heap.size:=ag.size;have s2:w1.heap.size<=w2.heap.size:=by simpa using ae.size
  have o1:∀k,k≠s->k<w1.heap.size->w2.heap[k]?=w1.heap[k]?:=λk h1 h2=>(ae.block k h2).trans (by show (w1.setCell _ _).heap[k]?=_;exact cH _ _ _ _ (show k≠s from h1))
  have o2:∀k,k≠s->(w2.setCell ⟨s,6,zc⟩ (zd (za ⟨r2,0,zc⟩))).heap[k]?=w2.heap[k]?:=λk h1=>cH _ _ _ _ (show k≠s from h1)
  have oo:∀k,k≠s->k<w.heap.size->(w2.setCell ⟨s,6,zc⟩ (zd (za ⟨r2,0,zc⟩))).heap[k]?=w.heap[k]?:=λk h1 h2=>(o2 k h1).trans ((o1 k h1 (by omega)).trans (ag.block k h2))
  have b1:w1.heap[s]?=za (zj (BS v x y) 229 (0,0)):=(ag.block s mf).trans gY;have b2:=dE w1 s 5 _ _ (zd (za ⟨r1,0,zc⟩)) b1;have b3:w2.heap[s]?=_:=(ae.block s (by omega)).trans b2;have b4:=dE w2 s 6 _ _ (zd (za ⟨r2,0,zc⟩)) b3;have bI:(0:Nat)≠s:=by have:=hC.p0;have:=hC.s0;omega
  have gz:=hC.c1.pos;have hle:=hC.c1.le;have hk:bJ w (w2.setCell ⟨s,6,zc⟩ (zd (za ⟨r2,0,zc⟩))):=λk _ e=>by
   have hne:k≠s:=λe2=>by rw[e2,gY]at e;exact absurd (bL e) (by decide)
   exact(oo k hne (ah.1 e).1).trans e
  refine⟨⟨r1,KP,KT,MT,MR,KW,G5,1,[]⟩,⟨r2,KQ,KV,MU,MS,KX,G6,1,[]⟩,λk=>w.heap.size<=k/\k<w1.heap.size,λk=>w1.heap.size<=k/\k<w2.heap.size,⟨b4,hC.keep (λk h1 h2 h3=>oo k h3 (by omega)) hk (oo 0 bI (by omega)) (by simp;omega),qA.first (A9.keep λk h1 _=>(o2 k (by omega)).trans (o1 k (by omega) h1.2)) aO,qA.first (pR.keep λk h1 _=>o2 k (by omega)) aQ,λk h1=>⟨by omega,by simp;omega⟩,λk h1=>⟨by omega,by simp;omega⟩,λk h1 h2=>by omega⟩,rfl,rfl,λk h1=>by omega,ae.os.trans ag.os,ae.tape.trans ag.tape,ae.output.trans ag.output,by simp;omega,λk h1 h2=>oo k h2 h1⟩
 have zAS:zk (Er w s v):=hC;have cN:=hC.c1.AP;have hBl:=hC.c1.le;have iU:=hC.ne.1;have NV:zk (∀w1:zh,zl w.drew.heap.size w.drew w1->∀r1:Nat,w1.heap[s]?=za (zj (BS v x y) 229 (0,0))/\w1.cell? ⟨v.bt,2,zc⟩=za (.slice v.fa v.n v.fc)/\(w1.setCell ⟨s,5,zc⟩ (zd (za ⟨r1,0,zc⟩))).heap[s]?=za (zj (BS v (zd (za ⟨r1,0,zc⟩)) y) 229 (0,0))/\(w1.setCell ⟨s,5,zc⟩ (zd (za ⟨r1,0,zc⟩))).cell? ⟨v.bt,2,zc⟩=za (.slice v.fa v.n v.fc)):=λw1 hb r1=>by
  have e1:=(hb.block s mf).trans gY;have e2:=(hb.cell (p:=⟨v.bt,2,zc⟩) (by show v.bt<w.heap.size;omega)).trans t2;exact⟨e1,e2,dE w1 s 5 _ _ _ e1,(World.cell?_of_block (cH _ _ _ _ (show v.bt≠s from iU))).trans e2⟩
 have RM:zk (∀W w2:zh,W.heap[s]?=za (zj (BS v x y) 229 (0,0))->True):=λ_ _ _=>trivial
 clear RM hC gY
 go_enter func141,ntmps141
 go_wp2_with fail
 go_region_held3 (λw'=>w'.cell? ⟨s,0,zc⟩=za (zd (za ⟨v.bt,0,zc⟩))/\w'.cell? ⟨s,2,zc⟩=za (ze (za ⟨v.ga,0,zc⟩) v.nw v.nw)/\w'.cell? ⟨s,3,zc⟩=za (ze (za ⟨v.gl,0,zc⟩) v.nw v.nw)/\w'.cell? ⟨v.bt,2,zc⟩=za (.slice v.fa v.n v.fc)) ((first|exact⟨c0,c2,c3,t2⟩|exact⟨k0,k2,k3,kt⟩|exact⟨j0,j2,j3,jt⟩|go_keep)) ((go_at_call 161;refine rT.mono ?_;rintro e w1 ⟨r1,KP,KT,MT,MR,KW,G5,rfl,A9,aO,ag⟩;obtain⟨kb,kt,jb,jt⟩:=NV.out w1 ag r1;obtain⟨k0,k1,k2,k3,k4,k5,k6⟩:=mB kb;have kf:=cT _ _ 5 _ _ kb;obtain⟨j0,j1,j2,j3,j4,j5,j6⟩:=mB jb))
 have UX:=n8 w1 ag r1;have GR:zk _:=lz.out w1 r1 KP KT MT MR KW G5 ag A9 aO;have dH:s<w1.heap.size:=(ah.1 kb).1;obtain⟨X,hX⟩:∃X,w1.setCell ⟨s,5,zc⟩ (zd (za ⟨r1,0,zc⟩))=X:=⟨_,rfl⟩;have hXs:X.heap.size=w1.heap.size:=by rw[<-hX];simp
 rw[hX]at UX jb j0 j2 j3 j4 j5 j6 GR ⊢;have Ed:zk (∀w2:zh,zl X.drew.heap.size X.drew w2->∀r2:Nat,w2.heap[s]?=za (zj (BS v (zd (za ⟨r1,0,zc⟩)) y) 229 (0,0))/\(w2.setCell ⟨s,6,zc⟩ (zd (za ⟨r2,0,zc⟩))).heap[s]?=za (zj (BS v (zd (za ⟨r1,0,zc⟩)) (zd (za ⟨r2,0,zc⟩))) 229 (0,0))):=λw2 hb r2=>by
  have e1:=(hb.block s (by show s<X.heap.size;omega)).trans jb;exact⟨e1,dE w2 s 6 _ _ _ e1⟩
 clear NV rT n8 lz A9 aO ag kb kt k0 k1 k2 k3 k4 k5 k6 kf c0 c1 c2 c3 c4 c5 c6 t0 t1 t2 f5 jb jt j1 j5 j6
 go_wp2_with fail
 go_region_held3 (λw'=>w'.cell? ⟨s,0,zc⟩=za (zd (za ⟨v.bt,0,zc⟩))/\w'.cell? ⟨s,2,zc⟩=za (ze (za ⟨v.ga,0,zc⟩) v.nw v.nw)/\w'.cell? ⟨s,3,zc⟩=za (ze (za ⟨v.gl,0,zc⟩) v.nw v.nw)/\w'.cell? ⟨s,4,zc⟩=za (.slice v.ba v.n v.bc)) ((first|exact⟨j0,j2,j3,j4⟩|exact⟨k0,k2,k3,k4⟩|exact⟨i0,i2,i3,i4⟩|go_keep)) ((go_at_call 161;refine UX.mono ?_;rintro e w2 ⟨r2,KQ,KV,MU,MS,KX,G6,rfl,pR,aQ,ae⟩;obtain⟨kb,ib⟩:=Ed.out w2 ae r2;obtain⟨k0,k1,k2,k3,k4,k5,k6⟩:=mB kb;have kf:=cT _ _ 6 _ _ kb;obtain⟨i0,i1,i2,i3,i4,i5,i6⟩:=mB ib))
 have H2:zk _:=GR.out w2 r2 KQ KV MU MS KX G6 (by rw[<-hXs];exact ae) (by rw[<-hXs];exact pR) aQ;clear Ed UX GR pR aQ ae kb ib k0 k1 k2 k3 k4 k5 k6 kf i0 i1 i2 i3 i4 i5 i6 j0 j2 j3 j4;go_wp2
 go_end0
 exact⟨rfl,H2.out⟩
section
variable {O:Nat -> Prop}{w:zh}{n nw bt ga gl:Nat}{lv:zi}{f:Nat -> Nat -> Bool}{Lk:Nat -> Nat -> Nat}{A L:Nat -> Nat}{v:cz}
theorem qA.kZ(h:qA O w n nw bt ga gl lv f Lk A L v):∃g c:Nat,v.sS=ze (za ⟨g,0,zc⟩) v.m c/\g<w.heap.size/\∀i,i<v.m->w.cell? ⟨g,i,zc⟩=za (ze (za ⟨v.gx i,0,zc⟩) nw nw):=by
 obtain⟨g,cap,ax,h1,h2,h3⟩:=yl h.s.so h.pos;exact⟨g,cap,h1,(ah.1 h2).1,λi hi=>by rw[aM _ _ _ _ _ _ h2,h3 i hi];simp[gO,hi]⟩
theorem qA.zx6(h:qA O w n nw bt ga gl lv f Lk A L v):∃g c:Nat,v.sP=ze (za ⟨g,0,zc⟩) v.m c/\g<w.heap.size/\∀i,i<v.m->w.cell? ⟨g,i,zc⟩=za (.bool (kO nw (v.Ts i) L)):=by
 obtain⟨g,cap,ax,h1,h2,h3⟩:=yl h.s.po h.pos;exact⟨g,cap,h1,(ah.1 h2).1,λi hi=>by rw[aM _ _ _ _ _ _ h2,h3 i hi];simp[Dv,hi]⟩
theorem zrn(O1 O2:Nat->Prop)(s:Nat)(v:eE)(a b:cz)(w:zh)(h:gW O1 O2 w s v a b)(ha:a.m<=100000000)(hb:b.m<=100000000):
  zm prog 140 #[zd (za ⟨s,0,zc⟩)] w λe w'=>e=.returned (zg .i64 ((a.m:Int)+b.m))/\zl w.heap.size w w':=by
 obtain⟨-,-,-,-,-,c5,c6⟩:=mB h.box;have a5:=(oA h.ra.s.box).2.2.2.2.2.1;have b5:=(oA h.rb.s.box).2.2.2.2.2.1;obtain⟨g1,k1,e1,-⟩:=h.ra.kZ;obtain⟨g2,k2,e2,-⟩:=h.rb.kZ;rw[e1]at a5;rw[e2]at b5;clear e1 e2 h
 go_enter func140,ntmps140
 go_wp2
 go_region
 all_goals
  go_wp2;go_ret;exact⟨rfl,(Below.refl _ _).drew⟩
theorem ztx(O1 O2:Nat->Prop)(s:Nat)(v:eE)(a b:cz)(w:zh)(h:gW O1 O2 w s v a b)(hn:v.n<=64000):
  zm prog 143 #[zd (za ⟨s,0,zc⟩)] w λe w'=>e=.returned (zg .i64 ((v.n:Int)*v.nw))/\zl w.heap.size w w':=by
 obtain⟨c0,-,-,-,c4,-,-⟩:=mB h.box;obtain⟨t0,-,-,-⟩:=ci h.c.c1.box;have bY:=h.c.c1.ic;have hm:(0:Int)<=(v.n:Int)*v.nw/\(v.n:Int)*v.nw<=64000*1000:=⟨Int.mul_nonneg (by omega) (by omega),Int.mul_le_mul (by omega) (by omega) (by omega) (by omega)⟩;clear h
 go_enter func143,ntmps143
 go_wp2
 go_region
 all_goals
  go_wp2;go_ret;exact⟨rfl,(Below.refl _ _).drew⟩
end
theorem BK{P:Program}{ops:Array Oper}{o:Oper}{a:Act}{w:zh}{K:Act->zh->Prop}{Q:Exit->Act->zh->Prop}{E:Prop}(lZ:o.guard=zc)(f:FuncId)(xs:Array Operand)(ats:Array zo)
  (ho:o.op=.call {callee:=.value (.func f),args:=xs,argTypes:=ats}) (args:Array zi) (CZ:(#[]++xs.map a.eval++#[]:Array zi)=args) (R:zi->zh->Prop) (pV:(callFunc f args).run P w=.ok (.enter f args) w)
  (hc:zm P f args w λe w'=>∃v,e=.returned v/\R v w') (h:∀v w',R v w'->K (a.put o.dst v) w'):
  if Region.wanted o (yielded ops a.tmps)=true then Oper.wp P o a w K Q else E:=by
 have hw:Region.wanted o (yielded ops a.tmps)=true:=by simp[Region.wanted,lZ]
 rw[aC hw];obtain⟨dst,op,type,pos,after,guard⟩:=o;simp only at ho;subst ho;unfold Oper.wp;rw[execOp_call_go,CZ];rw[pV,Oper.upon_enter];refine hc.mono ?_;rintro e w' ⟨v,rfl,hR⟩;exact h v w' hR
section
variable {w W:zh}{B n nw bt n' ga gl ha hl:Nat}{mk fr mk' fr' A L A' L':Nat -> Nat}{f f':Nat -> Nat -> Bool}{F F':Nat -> Nat -> Nat}{b c:Bool}{D E:Nat -> Prop}{M N:PA}{sv fv:zi}
theorem Ni(xs:Array zi)(w:zh):(callFunc 163 xs).run prog w=.ok (.enter 163 xs) w:=by kernel_rfl
theorem QO(xs:Array zi)(w:zh):(callFunc 187 xs).run prog w=.ok (.enter 187 xs) w:=by kernel_rfl
theorem zk0(xs:Array zi)(w:zh):(callFunc 188 xs).run prog w=.ok (.enter 188 xs) w:=by kernel_rfl
def KU(w W:zh):Prop:=∀(k:Nat) (cs:Array zi) (t:zo),w.heap[k]?=za (zj cs t (0,0))->t≠236->W.heap[k]?=za (zj cs t (0,0))
theorem KU.of{S:Nat->Prop}(t:ap S w W)(hS:∀k,k<w.heap.size->S k->∃m T,aH w m k T):KU w W:=λk cs u hk hu=>by
 have hlt:=(ah.1 hk).1;refine(t.same k hlt (λhs=>?_)).trans hk;obtain⟨m,T,hp⟩:=hS k hlt hs;have:=hp.row;rw[hk]at this;exact hu (bL this)
def jV(B:Nat)(w:zh)(n nw bt:Nat)(mk:Nat->Nat)(f:Nat->Nat->Bool)(fr:Nat->Nat)(F:Nat->Nat->Nat)(W:zh)(n' ga gl:Nat)(b:Bool)(M:PA):Prop:=
 ∃(sv fv:zi) (mk':Nat->Nat) (f':Nat->Nat->Bool) (fr':Nat->Nat) (F':Nat->Nat->Nat) (A L:Nat->Nat),fM B w n nw bt mk f fr F W n' ga gl b M sv fv mk' f' fr' F' A L
theorem zqg
  (h:yT B w n nw bt mk f fr F W n' ga gl ha hl b c D E M N sv fv mk' f' fr' F' A L A' L'):
  zm prog 187 #[zd (za ⟨bt,0,zc⟩),zn #[.bool b,ze (za ⟨ga,0,zc⟩) nw nw,ze (za ⟨gl,0,zc⟩) nw nw],zn #[.bool c,ze (za ⟨ha,0,zc⟩) nw nw,ze (za ⟨hl,0,zc⟩) nw nw]] W λe W2=>
   e=.returned (zn #[.bool (b&&c),ze (za ⟨ga,0,zc⟩) nw nw,ze (za ⟨hl,0,zc⟩) nw nw])/\jV B w n nw bt mk f fr F W2 n' ga hl (b&&c) (PA.seq M N)/\KU W W2:=by
 refine(zlM n' nw bt ga gl ha hl b c sv fv fr' F' A L A' L' W h.tk.l h.x h.y h.aa h.al h.ll h.e1 h.e2 h.e3 h.e4 (λp _ hp=>((h.un p).1 (.inl (h.gx.la p hp))).2)).mono λe W2 hs=>⟨hs.1,⟨_,_,_,_,_,_,_,_,h.seq hs⟩,KU.of hs.2.2.2 (λk _ e=>?_)⟩
 rcases e with rfl|rfl|⟨p,hp,rfl⟩
 ·exact⟨_,_,h.x.fi⟩
 ·exact⟨_,_,h.y.la⟩
 ·exact⟨_,_,h.tk.fol.rows p hp⟩
theorem zsP
  (h:yT B w n nw bt mk f fr F W n' ga gl ha hl b c D E M N sv fv mk' f' fr' F' A L A' L'):
  zm prog 188 #[zd (za ⟨bt,0,zc⟩),zn #[.bool b,ze (za ⟨ga,0,zc⟩) nw nw,ze (za ⟨gl,0,zc⟩) nw nw],zn #[.bool c,ze (za ⟨ha,0,zc⟩) nw nw,ze (za ⟨hl,0,zc⟩) nw nw]] W λe W2=>
   e=.returned (zn #[.bool (b || c),ze (za ⟨ga,0,zc⟩) nw nw,ze (za ⟨gl,0,zc⟩) nw nw])/\jV B w n nw bt mk f fr F W2 n' ga gl (b || c) (PA.aN M N)/\KU W W2:=by
 refine(zoI nw bt ga gl ha hl b c A L A' L' W h.x h.y h.aa h.al h.ll h.tk.ic).mono λe W2 hs=>⟨hs.1,⟨_,_,_,_,_,_,_,_,h.aN hs.2.1 hs.2.2⟩,KU.of hs.2.2 (λk _ e=>?_)⟩
 rcases e with rfl|rfl
 ·exact⟨_,_,h.x.fi⟩
 ·exact⟨_,_,h.x.la⟩
theorem zsi
  (h:fM B w n nw bt mk f fr F W n' ga gl b M sv fv mk' f' fr' F' A L):
  zm prog 202 #[zd (za ⟨bt,0,zc⟩),ze (za ⟨gl,0,zc⟩) nw nw,ze (za ⟨ga,0,zc⟩) nw nw] W λe W2=>
   e=.returned (.tuple #[])/\jV B w n nw bt mk f fr F W2 n' ga gl true (PA.star M)/\KU W W2:=by
 refine(zmo n' nw bt gl nw ga nw sv fv fr' F' L A W h.tk.l h.fg.la h.fg.fi h.el h.ea (λp _ hp=>(h.iS.la p hp).2)).mono λe W2 hs=>⟨hs.1,⟨_,_,_,_,_,_,_,_,h.star hs.2.1 hs.2.2⟩,KU.of hs.2.2 (λk _ ⟨p,hp,e⟩=>⟨_,_,e ▸ h.tk.fol.rows p hp⟩)⟩
def qB(p:Pt):Prop:=∀(B n nw bt:Nat) (sv fv:zi) (mk:Nat->Nat) (f:Nat->Nat->Bool) (fr:Nat->Nat) (F:Nat->Nat->Nat) (w:zh) (v:zi),ji B w n nw bt sv fv mk f fr F->aU w v p->aE p<=2000->n+(aE p).toNat<=64*nw->
 zm prog 163 #[zd (za ⟨bt,0,zc⟩),v] w λe W=>AD B w n nw bt mk f fr F (aE p).toNat (cj p n) e W
end
end
end Go.Proofs.YtdimhpfiieepiaaGreatDoor
