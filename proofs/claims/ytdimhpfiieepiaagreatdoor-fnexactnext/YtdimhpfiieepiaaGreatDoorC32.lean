import Derived.Test.YtdimhpfiieepiaaGreatDoorC29
import Derived.Test.YtdimhpfiieepiaaGreatDoorC31
namespace Go.Proofs.YtdimhpfiieepiaaGreatDoor
open Proofs.Tryz
open Option renaming some->za,none->zc
open Value renaming pointer->zd,slice->ze,int->zg
open RowKit renaming Hid->zh,Below->zj
open Obj renaming cells->zi
open Go renaming World->zk,Value->zl,Calls->zm
set_option maxHeartbeats 4000000
set_option maxRecDepth 100000
section
variable {O:Nat -> Prop}{w:zk}{r nw bt ga gl gm gv m B n:Nat}{lv sS sP sv fv:zl}{L gx lr mk A:Nat -> Nat}{Ts Lk:Nat -> Nat -> Nat}{es:List (Int×Int)}{f:Nat -> Nat -> Bool}
open Go.RowKit
attribute [local go_sem] Oper.semAt_some
theorem eZ.zy2{w':zk}(h:eZ O w r nw bt ga gl lv L gm gv sS sP gx Ts m es)(hc:∀(k:Nat) (cs:Array zl) (t:TypeId),w.heap[k]?=za (zi cs t (0,0))->w'.heap[k]?=za (zi cs t (0,0)))(hm:∀(k:Nat) (e:Array MapEntry) (c:Nat),w.heap[k]?=za (.map e c)->w'.heap[k]?=za (.map e c)):eZ O w' r nw bt ga gl lv L gm gv sS sP gx Ts m es:=
 ⟨hc _ _ _ h.box,hm _ _ _ h.nm,hm _ _ _ h.mv,lg h.so λ_ _ e=>hc _ _ _ e,lg h.po λ_ _ e=>hc _ _ _ e,λi hi=>⟨hc _ _ _ (h.set i hi).row,(h.set i hi).lt⟩,h.Ag,h.or,h.om,h.ov,h.os,h.op,h.ox,h.nd⟩
theorem eZ.zy9{es':List (Int×Int)}(h:eZ O w r nw bt ga gl lv L gm gv sS sP gx Ts m es):eZ O {w with heap:=w.heap.setIfInBounds gv (.map (qE es') es'.length)} r nw bt ga gl lv L gm gv sS sP gx Ts m es':=by
 have hs:=MapKept.heap_set (o':=.map (qE es') es'.length) h.mv;have hc:∀(k:Nat) (cs:Array zl) (t:TypeId),w.heap[k]?=za (zi cs t (0,0))->(w.heap.setIfInBounds gv (.map (qE es') es'.length))[k]?=za (zi cs t (0,0)):=λk cs t e=>(hs.2 k (λe2=>by rw[e2,h.mv]at e;cases e)).trans e
 exact⟨hc _ _ _ h.box,(hs.2 gm h.Ag).trans h.nm,hs.1,lg h.so λ_ _ e=>hc _ _ _ e,lg h.po λ_ _ e=>hc _ _ _ e,λi hi=>⟨hc _ _ _ (h.set i hi).row,(h.set i hi).lt⟩,h.Ag,h.or,h.om,h.ov,h.os,h.op,h.ox,h.nd⟩
theorem zjo{T U:Nat->Nat}(h:∀x,x<nw->T x=U x){q:Nat}(hq:q<64*nw):ax T q=ax U q:=by
 unfold ax;rw[h (q/64) (by omega)]
theorem zkd(C:pE B w n nw bt ga gl lv sv fv lr mk Lk A L f)(h:eZ O w r nw bt ga gl lv L gm gv sS sP gx Ts m es)(hM:uc nw f Lk A Ts m es)(hS:Fw n nw Ts m){i c:Nat}{b:Bool}(hi:i<m)(hc:c<256)(hm:m<=100000000)(hk:iE i c b∉ep es)
  {w5:zk} (ck:w5.os=w.os) (htp:w5.tape=w.tape) (hop:w5.output=w.output) (hsz:w.heap.size<=w5.heap.size) (TJ:∀k,k<w.heap.size->w5.heap[k]?=w.heap[k]?) {g4:Nat} {U4:Nat->Nat} (pL:w.heap.size<=g4) (hp:aH w5 nw g4 U4) (hU:∀q,ax U4 q=true->q<n) (hst:xU nw f Lk A (Ts i) c b U4):
  zm prog 169 #[zd (za ⟨r,0,zc⟩),ze (za ⟨g4,0,zc⟩) nw nw] w5 λe w6=>∃(t:Nat) (W7:zk),e=.returned (zg .i64 t)/\aE O w5 w6/\w6.cell? ⟨r,7,zc⟩=za (.map (za gv))/\w6.cell? ⟨r,0,zc⟩=za (zd (za ⟨bt,0,zc⟩))/\(Instr.mapUpdate 232 (.map (za gv)) (zg .i64 (iE i c b)) (zg .i64 t)).run prog w6=.ok () W7/\(∀k,k≠gv->W7.heap[k]?=w6.heap[k]?)/\
   zh (∀D,w.heap.size<=D->W7.heap[D]?=za (.deferred (za []))->II O w n r nw bt ga gl lv f Lk A L gm gv gx Ts m i c b (.returned (zg .i64 t)) (W7.putObj D (.deferred zc))):=by
 have h5:=h.keep (w':=w5) λk _ hl=>TJ k hl
 have hL5:aH w5 nw gl L:=⟨(TJ gl (bA C.pl.2 C.le)).trans C.pl.1.row,C.pl.1.lt⟩;refine(zd4 h5 g4 U4 hp hL5 C.gY hm).mono ?_;rintro e w6 ⟨t,m',EH,EG,pF,iT,rfl,hR,ht,cO,cD,hold,kS,qy,tc⟩;have TD:=ztz w6 underlying232 underlying3 gv es (iE i c b) (t:Int) hk hR.mv;have n8:=MapKept.heap_set (o':=.map (qE (es++[(iE i c b,(t:Int))])) (es++[(iE i c b,(t:Int))]).length) hR.mv;refine⟨t,_,rfl,tc,(oe hR.box).2.2.2.2.2.2.2,(oe hR.box).1,TD,λk hne=>n8.2 k hne,λD hD hK=>?_⟩;have Z2:=hR.zy9 (es':=es++[(iE i c b,(t:Int))]);obtain⟨W7,Ci⟩:∃W7,({w6 with heap:=w6.heap.setIfInBounds gv (.map (qE (es++[(iE i c b,(t:Int))])) (es++[(iE i c b,(t:Int))]).length)}:zk)=W7:=⟨_,rfl⟩;have e7:∀k,k≠gv->W7.heap[k]?=w6.heap[k]?:=λk hne=>by rw[<-Ci];exact n8.2 k hne
 have s7:W7.heap.size=w6.heap.size:=by rw[<-Ci];simp
 have o7:W7.os=w6.os/\W7.tape=w6.tape/\W7.output=w6.output:=by rw[<-Ci];exact⟨rfl,rfl,rfl⟩
 rw[Ci]at Z2 hK ⊢;have zAi:=tc.size;have hR8:=Z2.zy2 (w':=W7.putObj D (.deferred zc)) (λk cs t e=>(World.putObj_heap_other (λe2=>by subst e2;rw[hK]at e;cases e)).trans e) (λk es c e=>(World.putObj_heap_other (λe2=>by subst e2;rw[hK]at e;cases e)).trans e);have hTi:iT i=Ts i:=(hold i hi).2;have KH:xU nw f Lk A (Ts i) c b (iT t):=λq hq=>by rw[zjo kS hq];exact hst q hq
 refine⟨t,m',EH,EG,pF,iT,es++[(iE i c b,(t:Int))],rfl,hR8.lt.mono λk ⟨ho,hl⟩=>?_,ht,cO,cD,hold,KH,((hM.more cO λj hj=>(hold j hj).2).put (by omega) hc ht hk (by rw[hTi];exact KH)),λj q hj hq hb=>?_,?_⟩
 ·rcases ho with ho|rfl|ho
  ·exact .inl ho
  ·exact .inr ⟨pL,hl⟩
  ·exact .inr ⟨by omega,hl⟩
 ·by_cases SV:j<m
  ·rw[(hold j SV).2]at hb;exact hS j q SV hq hb
  ·have:=qy j (by omega) hj;subst this;rw[zjo kS hq]at hb;exact hU q hb
 ·refine⟨(show W7.os=_ from o7.1).trans (tc.os.trans ck),(show W7.tape=_ from o7.2.1).trans (tc.tape.trans htp),(show W7.output=_ from o7.2.2).trans (tc.output.trans hop),by simp;omega,λk hk hn=>?_⟩;rw[World.putObj_heap_other (by omega),e7 k (λe=>hn (by rw[e];exact h.ov)),tc.same k (by omega) hn,TJ k hk]
theorem zrH(C:pE B w n nw bt ga gl lv sv fv lr mk Lk A L f)(hO:∀k,O k->B<=k/\k<w.heap.size)(h:eZ O w r nw bt ga gl lv L gm gv sS sP gx Ts m es)(hM:uc nw f Lk A Ts m es)(hS:Fw n nw Ts m)(i c:Nat)(b:Bool)(hi:i<m)(hc:c<256)(hm:m<=100000000)(hk:iE i c b∉ep es):
  zm prog 147 #[zd (za ⟨r,0,zc⟩),zg .i64 i,.int .u8 c,.bool b] w λe w'=>II O w n r nw bt ga gl lv f Lk A L gm gv gx Ts m i c b e w':=by
 obtain⟨W1,cC⟩:∃W1,w.alloc (zi #[zd (za ⟨r,0,zc⟩)] 191)=W1:=⟨_,rfl⟩;have ak:zj w.heap.size w W1:=by rw[<-cC];exact au
 have k0:W1.heap[w.heap.size]?=za (zi #[zd (za ⟨r,0,zc⟩)] 191 (0,0)):=by rw[<-cC];exact aL _ _
 have c0:W1.cell? ⟨w.heap.size,0,zc⟩=za (zd (za ⟨r,0,zc⟩)):=(aO _ _ _ _ _ _ k0:_=_);have h1:=h.keep (w':=W1) λk _ hl=>ak.block k hl
 obtain⟨b0,b1,b2,b3,b4,b5,b6,b7⟩:=oe h1.box;have hl:=zpq W1 underlying232 underlying3 (Tryz.zwV W1) gv es (iE i c b) h1.mv;have rK:decide (iE i c b∈ep es)=false:=by simp[hk]
 rw[rK,zpr hk]at hl;have hno:=Fl nw bt sv fv W1 ((ak.block bt (bA C.Ab C.le)).trans C.box) C.gY;have GQ:iE i c b=2*(256*(i:Int)+(c:Int))+(if b=true then 1 else 0):=rfl;obtain⟨mc,zAl⟩:∃mc,iE i c b=mc:=⟨_,rfl⟩;rw[GQ]at hl;obtain⟨gS,cS,aA,rfl,Ef,Cq⟩:=xN h.so (by omega);have Rt:w.cell? ⟨gS,i,zc⟩=za (ze (za ⟨gx i,0,zc⟩) nw nw):=by
  rw[aO _ _ _ _ _ _ Ef,Cq i hi];simp[gJ,hi]
 have zyh:gS<w.heap.size:=(ap.1 Ef).1;have lF:r<w.heap.size:=(ap.1 h.box).1;have dO:(0:Int)<=(i:Int):=by omega
 have dh:(i:Int)<(m:Int):=by omega
 have HW:∀W,zj W1.heap.size W1 W->W.cell? ⟨w.heap.size,0,zc⟩=za (zd (za ⟨r,0,zc⟩))/\(W.cell? ⟨r,0,zc⟩=za (zd (za ⟨bt,0,zc⟩))/\W.cell? ⟨r,1,zc⟩=za lv/\W.cell? ⟨r,2,zc⟩=za (ze (za ⟨ga,0,zc⟩) nw nw)/\W.cell? ⟨r,5,zc⟩=za (ze (za ⟨gS,0,zc⟩) m cS)/\W.cell? ⟨r,7,zc⟩=za (.map (za gv)))/\W.cell? ⟨gS,i,zc⟩=za (ze (za ⟨gx i,0,zc⟩) nw nw):=λW hb=>by
  have dB:=ak.size;have hc:=λ(d o:Nat) (hl:d<W1.heap.size)=>hb.cell (p:=⟨d,o,zc⟩) hl
  have lG:w.heap.size<W1.heap.size:=(ap.1 k0).1;exact⟨(hc _ _ lG).trans c0,⟨(hc _ _ (by omega)).trans b0,(hc _ _ (by omega)).trans b1,(hc _ _ (by omega)).trans b2,(hc _ _ (by omega)).trans b5,(hc _ _ (by omega)).trans b7⟩,(hc _ _ (by omega)).trans ((ak.cell (p:=⟨gS,i,zc⟩) zyh).trans Rt)⟩
 refine(callsIn_wide (n:=5)).1 ?_;refine callsIn_of_wp_marks func147 rfl trivial ?_ rfl;simp only[ntmps147,yh,qg,oA,Nat.reduceAdd,Nat.reduceSub,Bl,Bm,Br,Bs,wJ,Bt];have Hl:zh _:=hl;cases b
 ·simp only[if_false,Bool.false_eq_true,Int.add_zero]at hl
  gi_wp2_with (refine⟨trivial,?_⟩;gi_at_call 164;refine(callsIn_wide.2 hno).mono ?_;rintro e w2 ⟨rfl,bz,bU⟩;have af:zj W1.heap.size W1 w2:=⟨bU.os,bU.tape,bU.output,bU.size,λk hk=>bU.block k hk (by simp)⟩;obtain⟨W0,ah⟩:∃W0,w2.alloc (zi #[ze (za ⟨W1.heap.size,0,zc⟩) nw nw] 193)=W0:=⟨_,rfl⟩;have ae:zj W1.heap.size W1 W0:=(by rw[<-ah];exact af.alloc af.size _);obtain⟨z0,⟨y0,y1,y2,y5,y7⟩,x0⟩:=HW W0 ae)
  have x5:W0.heap[w2.heap.size]?=za (zi #[ze (za ⟨W1.heap.size,0,zc⟩) nw nw] 193 (0,0)):=by rw[<-ah];exact aL _ _
  have yN:aH W0 nw W1.heap.size cK:=by rw[<-ah];exact⟨cQ bz.row,bz.lt⟩
  have KW:=bz.cj;have lG:w.heap.size<W1.heap.size:=(ap.1 k0).1;have hsz:w2.heap.size<W0.heap.size:=(ap.1 x5).1;obtain⟨gN,GG⟩:∃gN,W1.heap.size=gN:=⟨_,rfl⟩;have A0:∀k,k<w.heap.size->W0.heap[k]?=w.heap[k]?:=λk hk=>(ae.block k (by omega)).trans (ak.block k hk)
  rw[GG]at x5 yN KW lG ⊢;have C0:=C.keep (w':=W0) (λk hk=>A0 k (bA hk C.le)) (by have:=C.le;omega);have Lx:aH W0 nw (gx i) (Ts i):=⟨(A0 _ (h.set i hi).cj).trans (h.set i hi).row,(h.set i hi).lt⟩;have fC:=(h.set i hi).cj;have HX:zh (hl=hl):=rfl;clear HX hl Hl hno af bz bU ah
  rename_i K Ce
  refine Ie (by omega) (gf:=165) (fb:=#[ze (za ⟨gx i,0,zc⟩) nw nw]) (lb:=#[]) rfl (enters_of func165 (by kernel_rfl) rfl)
   (T:=[0,gx i]) (by intro k hk;simp at hk;have:=C.pos;have:=C.le;omega)
   (LI 4 nw (gx i) nw (Ts i) (by omega) C.gY W0 Lx C0.dR) (λ_=>rfl)
   (λpre W=>aE (λk=>k=gN) W0 W/\∃U,aH W nw gN U/\∀q,ax U q=true↔∃p,p∈jC pre/\ax (Lk p) q=true)
   (λ_ _ _=>False)
   (λs A B hs ht=>⟨hs.1.turn ht,by obtain⟨U,h1,h2⟩:=hs.2;exact⟨U,⟨ht.same _ _ h1.row (.inr rfl),h1.lt⟩,h2⟩⟩)
   (λc s A B hs ht=>hs)
   ⟨aE.refl _ _,cK,yN,λq=>by rw[Ba];simp[jC]⟩
   (λx=>{tmps:=#[zd (za ⟨r,0,zc⟩),zg .i64 i,.int .u8 c,.bool false,zd (za ⟨w.heap.size,0,zc⟩),undef,undef,undef,zg .i64 0,zg .i64 (2*(256*(i:Int)+(c:Int))),zg .i64 0,.bool false,zd (za ⟨w2.heap.size,0,zc⟩),zg .i64 (x.1:Int),zg .i64 i,zg .i64 (256*(i:Int)),.int .u8 c,zg .i64 c,zg .i64 (256*(i:Int)+(c:Int)),zg .i64 (2*(256*(i:Int)+(c:Int))),.bool false,undef,undef,.tuple #[zg .i64 0,.bool false],zd (za ⟨r,0,zc⟩),zd (za ⟨r,0,zc⟩),zd (za ⟨r,7,zc⟩),.map (za gv),zg .i64 (2*(256*(i:Int)+(c:Int))),.tuple #[zg .i64 0,.bool false],zg .i64 0,.bool false,.bool false,undef,zd (za ⟨r,0,zc⟩),zd (za ⟨r,0,zc⟩),zd (za ⟨r,0,zc⟩),zd (za ⟨bt,0,zc⟩),ze (za ⟨gN,0,zc⟩) nw nw,zd (za ⟨r,0,zc⟩),zd (za ⟨r,0,zc⟩),zd (za ⟨r,5,zc⟩),ze (za ⟨gS,0,zc⟩) m cS,zg .i64 i,zd (za ⟨gS,i,zc⟩),ze (za ⟨gx i,0,zc⟩) nw nw,.func (.func 165) #[ze (za ⟨gx i,0,zc⟩) nw nw] #[],zg .i64 (x.1:Int),undef,undef,undef,undef,undef,undef,undef,undef,undef,undef,undef,undef,undef,undef,undef,undef,undef,undef,undef,undef,undef,undef,undef,undef,undef,undef,undef,undef,undef,undef,undef,undef],defers:=[]})
   ?assign ?body ?done ?stop
  case assign=>
   intro l x W K hK
   gi_wp2
   exact hK
  case stop=>
   rintro D c pre W hD _ hf;exact hf.elim
  case body=>
   rintro l pre ⟨x,hx⟩ W hl ⟨ht,U,hU,gT⟩ hlen;have fF:=hS i x hi hx.1 hx.2;obtain⟨gf,cf,rfl,Cs,rN⟩:=C0.Ld (by omega);have RP:=C.le;have hlr:=(C0.wa x fF).2;have cell:∀d o,d<W0.heap.size->d≠gN->W.cell? ⟨d,o,zc⟩=W0.cell? ⟨d,o,zc⟩:=λd o h1 h2=>World.cell?_of_block (ht.same d h1 h2)
   have z3:=(cell w.heap.size 0 (by omega) (by omega)).trans z0;have z5:W.cell? ⟨w2.heap.size,0,zc⟩=za (ze (za ⟨gN,0,zc⟩) nw nw):=(cell w2.heap.size 0 hsz (by omega)).trans (aO _ _ _ _ _ _ x5:_=_);have zb:=(cell r 1 (by omega) (by omega)).trans y1;have zf:=(cell gf x (by omega) (by omega)).trans (rN x fF);have eT:=((C0.wa x fF).1).kF ht (by omega);have hj:=zu nw gN (lr x) nw nw U (Lk x) W.drew ⟨hU.row,hU.lt⟩ ⟨eT.row,eT.lt⟩ (by omega) C.gY;have fE:(0:Int)<=(x:Int):=by omega
   have mj:(x:Int)<(n:Int):=by omega
   have fU:prog.follows .mixedOrders=true:=by kernel_rfl
   dsimp only
   gi_wp2
   gi_region_with_o (refine⟨trivial,?_⟩;gi_at_call 168;refine(CallsIn.inRound l (callsIn_wide.2 hj)).mono ?_;rintro e w' ⟨rfl,tj,cY⟩)
   all_goals
    gi_wp2
    refine⟨KeepsFrom.of_grownBy (W:=W) (row:=za gN) ⟨cY.os,cY.tape,cY.output,cY.size,cY.block⟩ (λj e=>by cases e;omega),λk hk=>?_,ht.grown (A:=W) (o:=za gN) ⟨cY.os,cY.tape,cY.output,cY.size,cY.block⟩ (λg e=>by cases e;exact .inl rfl),eD U (Lk x),tj,λq=>?_⟩
    ·refine cY.block k ?_ (λe=>?_)
     ·have:=ht.size;simp at hk;show k<W.heap.size;omega
     ·have e':k=gN:=by simpa using e
      simp at hk;omega
    ·rw[Iy,CZ,sw,gT];constructor
     ·rintro (⟨p,h3,h4⟩|h3)
      ·exact⟨p,er.2 (.inl h3),h4⟩
      ·exact⟨x,by simp,h3⟩
     ·rintro ⟨p,h3,h4⟩;rcases er.1 h3 with h3|h3
      ·exact .inl ⟨p,h3,h4⟩
      ·exact .inr (by rw[eM.1 h3]at h4;exact h4)
  case done=>
   rintro D ys W hD jR ⟨ht,U,hU,gT⟩ hK;have RP:=C.le;have cell:∀d o,d<W0.heap.size->d≠gN->W.cell? ⟨d,o,zc⟩=W0.cell? ⟨d,o,zc⟩:=λd o h1 h2=>World.cell?_of_block (ht.same d h1 h2)
   have z3:=(cell w.heap.size 0 (by omega) (by omega)).trans z0;have z5:W.cell? ⟨w2.heap.size,0,zc⟩=za (ze (za ⟨gN,0,zc⟩) nw nw):=(cell w2.heap.size 0 hsz (by omega)).trans (aO _ _ _ _ _ _ x5:_=_);have PX:=(cell r 0 (by omega) (by omega)).trans y0;have Xe:=(cell r 2 (by omega) (by omega)).trans y2;have wm:∀k,k<w.heap.size->W.heap[k]?=w.heap[k]?:=λk hk=>(ht.same k (by omega) (by omega)).trans (A0 k hk)
   have TI:W0.heap.size<=W.heap.size:=ht.size;have D4:∀q,ax U q=true↔∃p,p<64*nw/\ax (Ts i) p=true/\ax (Lk p) q=true:=λq=>(gT q).trans ⟨λ⟨p,h3,h4⟩=>⟨p,((jR p).1 h3).1,((jR p).1 h3).2,h4⟩,λ⟨p,h3,h4,h5⟩=>⟨p,(jR p).2 ⟨h3,h4⟩,h5⟩⟩
   have xd:∀q,q<64*nw->ax U q=true->q<n:=λq hq h3=>by
    obtain⟨p,h4,h5,h6⟩:=(D4 q).1 h3;exact C.lb p q (hS i p hi h4 h5) hq h6
   have CW:=C.keep (w':=W) (λk hk=>wm k (bA hk C.le)) (by omega);have fU:prog.follows .mixedOrders=true:=by kernel_rfl
   have J5:iE i c false=2*(256*(i:Int)+(c:Int)):=by unfold iE;simp
   have gvl:gv<w.heap.size:=(hO gv h.ov).2;obtain⟨X,hX⟩:∃X,W.drew=X:=⟨_,rfl⟩;have Jt:X.os=w.os:=by rw[<-hX];exact(show W.os=_ from ht.os).trans (ae.os.trans ak.os)
   have Jv:X.tape=w.tape:=by rw[<-hX];exact(show W.tape=_ from ht.tape).trans (ae.tape.trans ak.tape)
   have Js:X.output=w.output:=by rw[<-hX];exact(show W.output=_ from ht.output).trans (ae.output.trans ak.output)
   have DF:w.heap.size<=X.heap.size:=by rw[<-hX];show _<=W.heap.size;omega
   have Ju:∀k,k<w.heap.size->X.heap[k]?=w.heap[k]?:=by rw[<-hX];exact wm
   have Xn:∀q,q<64*nw->ax U q=true->q<n:=xd;have Xq:∀q,q<64*nw->(ax U q=true↔(∃p,p<64*nw/\ax (Ts i) p=true/\ax (Lk p) q=true)\/(false=true/\ax A q=true)):=λq _=>(D4 q).trans ⟨.inl,λh=>h.elim id λh=>by cases h.1⟩
   have fL:=zkz n nw bt gN nw c sv fv mk f U W.drew CW.box (λhn=>by obtain⟨gs,cs,e1,e2,e3⟩:=CW.CU hn;exact⟨gs,cs,e1,by show gs<W.heap.size;omega,e3⟩) (λp hp=>(CW.pS p hp).1) ⟨hU.row,hU.lt⟩ xd CW.gY hc CW.dR (by show 0<W.heap.size;omega);rw[hX]at fL;have xv:=λ(w5:zk) (g4:Nat) (U4:Nat->Nat) (hb:zj X.heap.size X w5) (pL:X.heap.size<=g4) (hp:aH w5 nw g4 U4) (D7:∀q,ax U4 q=true↔q<64*nw/\ax U q=true/\f q c=true)=>zkd C h hM hS (b:=false) hi hc hm hk (w5:=w5) (hb.os.trans Jt) (hb.tape.trans Jv) (hb.output.trans Js) (aU DF hb.size) (λk hk=>(hb.block k (bA hk DF)).trans (Ju k hk)) (g4:=g4) (U4:=U4) (aU DF pL) hp (λq hq=>Xn q ((D7 q).1 hq).1 ((D7 q).1 hq).2.1) (λq hq=>by
    rw[D7 q];constructor
    ·rintro ⟨_,h3,h4⟩;exact⟨h4,(Xq q hq).1 h3⟩
    ·rintro ⟨h3,h4⟩;exact⟨hq,(Xq q hq).2 h4,h3⟩)
   simp only[J5]at xv;have re:zh (∀k,O k->k<w.heap.size):=λk hk=>(hO k hk).2
   have Hh:zh (xv=xv):=rfl;clear Hh h hM hS hO C C0 CW HW gT jR hU h1 Rt Ef Cq b0 b1 b2 b3 b4 b5 b6 b7 c0 x0 y0 y1 y2 y5 y7 z0 yN Lx GQ rK J5;have X3:X.cell? ⟨w.heap.size,0,zc⟩=za (zd (za ⟨r,0,zc⟩)):=by rw[<-hX];exact z3
   have X5:X.cell? ⟨w2.heap.size,0,zc⟩=za (ze (za ⟨gN,0,zc⟩) nw nw):=by rw[<-hX];exact z5
   have X0:X.cell? ⟨r,0,zc⟩=za (zd (za ⟨bt,0,zc⟩)):=by rw[<-hX];exact PX
   have XD:X.heap[D]?=za (.deferred (za [])):=by rw[<-hX];exact hK
   have Rc:D<X.heap.size:=(ap.1 XD).1;have Rf:w.heap.size<X.heap.size:=by rw[<-hX];show _<W.heap.size;omega
   have Re:w2.heap.size<X.heap.size:=by rw[<-hX];show _<W.heap.size;omega
   have Xr:r<X.heap.size:=by omega
   have zyR:w.heap.size<=w2.heap.size:=by omega
   have RQ:w.heap.size<=D:=by omega
   have Qt:zh _:=XD;refine Ce _ _ (wpIn_wide.2 ?_);dsimp only;clear Ce XD hK ht wm D4 xd Jt Jv Js Ju Xn Xq cell A0
   go_wp2_with fail
   go_region_held3 (λw'=>w'.cell? ⟨w.heap.size,0,zc⟩=za (zd (za ⟨r,0,zc⟩))/\w'.cell? ⟨w2.heap.size,0,zc⟩=za (ze (za ⟨gN,0,zc⟩) nw nw)/\w'.cell? ⟨r,0,zc⟩=za (zd (za ⟨bt,0,zc⟩))) ((first|exact⟨X3,X5,X0⟩|exact⟨z3,z5,PX⟩|exact⟨q3,q5,q0⟩|exact⟨p3,p5,p0⟩|go_keep)) ((first|(go_at_call 170;refine fL.mono ?_;rintro e w5 ⟨g4,U4,rfl,pL,Kw,aG,pI⟩;have q3:=(pI.cell (p:=⟨w.heap.size,0,zc⟩) Rf).trans X3;have q5:=(pI.cell (p:=⟨w2.heap.size,0,zc⟩) Re).trans X5;have q0:=(pI.cell (p:=⟨r,0,zc⟩) Xr).trans X0)|(go_at_call 169;refine(xv w5 g4 U4 pI pL Kw aG).mono ?_;rintro e w6 ⟨t,W7,rfl,uQ,zm6,p0,TD,RL,HR⟩;have p3:w6.cell? ⟨w.heap.size,0,zc⟩=za (zd (za ⟨r,0,zc⟩)):=(World.cell?_of_block (uQ.same w.heap.size (by have:=pI.size;omega) (λe=>by have:=re.out _ e;omega))).trans q3;have p5:w6.cell? ⟨w2.heap.size,0,zc⟩=za (ze (za ⟨gN,0,zc⟩) nw nw):=(World.cell?_of_block (uQ.same w2.heap.size (by have:=pI.size;omega) (λe=>by have:=re.out _ e;omega))).trans q5)))
   all_goals
    have JP:W7.heap[D]?=za (.deferred (za [])):=by
     rw[RL D (by omega),uQ.same D (by have:=pI.size;omega) (λe=>by have:=re.out _ e;omega),pI.block D Rc];exact Qt.out
    have IZ:=HR.out D RQ JP;have lq:zh _:=IZ;clear IZ HR xv fL;go_wp2;refine⟨by simp,.inl ⟨_,_,rfl,run_takeDeferred JP,?_⟩⟩;exact⟨zg .i64 t,by simp[results,results147,go_sem],lq.out⟩
 ·simp only[if_true]at hl
  gi_wp2_with (refine⟨trivial,?_⟩;gi_at_call 164;refine(callsIn_wide.2 hno).mono ?_;rintro e w2 ⟨rfl,bz,bU⟩;have af:zj W1.heap.size W1 w2:=⟨bU.os,bU.tape,bU.output,bU.size,λk hk=>bU.block k hk (by simp)⟩;obtain⟨W0,ah⟩:∃W0,w2.alloc (zi #[ze (za ⟨W1.heap.size,0,zc⟩) nw nw] 193)=W0:=⟨_,rfl⟩;have ae:zj W1.heap.size W1 W0:=(by rw[<-ah];exact af.alloc af.size _);obtain⟨z0,⟨y0,y1,y2,y5,y7⟩,x0⟩:=HW W0 ae)
  have x5:W0.heap[w2.heap.size]?=za (zi #[ze (za ⟨W1.heap.size,0,zc⟩) nw nw] 193 (0,0)):=by rw[<-ah];exact aL _ _
  have yN:aH W0 nw W1.heap.size cK:=by rw[<-ah];exact⟨cQ bz.row,bz.lt⟩
  have KW:=bz.cj;have lG:w.heap.size<W1.heap.size:=(ap.1 k0).1;have hsz:w2.heap.size<W0.heap.size:=(ap.1 x5).1;obtain⟨gN,GG⟩:∃gN,W1.heap.size=gN:=⟨_,rfl⟩;have A0:∀k,k<w.heap.size->W0.heap[k]?=w.heap[k]?:=λk hk=>(ae.block k (by omega)).trans (ak.block k hk)
  rw[GG]at x5 yN KW lG ⊢;have C0:=C.keep (w':=W0) (λk hk=>A0 k (bA hk C.le)) (by have:=C.le;omega);have Lx:aH W0 nw (gx i) (Ts i):=⟨(A0 _ (h.set i hi).cj).trans (h.set i hi).row,(h.set i hi).lt⟩;have fC:=(h.set i hi).cj;have HX:zh (hl=hl):=rfl;clear HX hl Hl hno af bz bU ah
  rename_i K Ce
  refine Ie (by omega) (gf:=165) (fb:=#[ze (za ⟨gx i,0,zc⟩) nw nw]) (lb:=#[]) rfl (enters_of func165 (by kernel_rfl) rfl)
   (T:=[0,gx i]) (by intro k hk;simp at hk;have:=C.pos;have:=C.le;omega)
   (LI 4 nw (gx i) nw (Ts i) (by omega) C.gY W0 Lx C0.dR) (λ_=>rfl)
   (λpre W=>aE (λk=>k=gN) W0 W/\∃U,aH W nw gN U/\∀q,ax U q=true↔∃p,p∈jC pre/\ax (Lk p) q=true)
   (λ_ _ _=>False)
   (λs A B hs ht=>⟨hs.1.turn ht,by obtain⟨U,h1,h2⟩:=hs.2;exact⟨U,⟨ht.same _ _ h1.row (.inr rfl),h1.lt⟩,h2⟩⟩)
   (λc s A B hs ht=>hs)
   ⟨aE.refl _ _,cK,yN,λq=>by rw[Ba];simp[jC]⟩
   (λx=>{tmps:=#[zd (za ⟨r,0,zc⟩),zg .i64 i,.int .u8 c,.bool true,zd (za ⟨w.heap.size,0,zc⟩),undef,undef,undef,zg .i64 0,zg .i64 (2*(256*(i:Int)+(c:Int))+1),zg .i64 0,.bool false,zd (za ⟨w2.heap.size,0,zc⟩),zg .i64 (x.1:Int),zg .i64 i,zg .i64 (256*(i:Int)),.int .u8 c,zg .i64 c,zg .i64 (256*(i:Int)+(c:Int)),zg .i64 (2*(256*(i:Int)+(c:Int))),.bool true,zg .i64 (2*(256*(i:Int)+(c:Int))),zg .i64 (2*(256*(i:Int)+(c:Int))+1),.tuple #[zg .i64 0,.bool false],zd (za ⟨r,0,zc⟩),zd (za ⟨r,0,zc⟩),zd (za ⟨r,7,zc⟩),.map (za gv),zg .i64 (2*(256*(i:Int)+(c:Int))+1),.tuple #[zg .i64 0,.bool false],zg .i64 0,.bool false,.bool false,undef,zd (za ⟨r,0,zc⟩),zd (za ⟨r,0,zc⟩),zd (za ⟨r,0,zc⟩),zd (za ⟨bt,0,zc⟩),ze (za ⟨gN,0,zc⟩) nw nw,zd (za ⟨r,0,zc⟩),zd (za ⟨r,0,zc⟩),zd (za ⟨r,5,zc⟩),ze (za ⟨gS,0,zc⟩) m cS,zg .i64 i,zd (za ⟨gS,i,zc⟩),ze (za ⟨gx i,0,zc⟩) nw nw,.func (.func 165) #[ze (za ⟨gx i,0,zc⟩) nw nw] #[],zg .i64 (x.1:Int),undef,undef,undef,undef,undef,undef,undef,undef,undef,undef,undef,undef,undef,undef,undef,undef,undef,undef,undef,undef,undef,undef,undef,undef,undef,undef,undef,undef,undef,undef,undef,undef],defers:=[]})
   ?assign ?body ?done ?stop
  case assign=>
   intro l x W K hK
   gi_wp2
   exact hK
  case stop=>
   rintro D c pre W hD _ hf;exact hf.elim
  case body=>
   rintro l pre ⟨x,hx⟩ W hl ⟨ht,U,hU,gT⟩ hlen;have fF:=hS i x hi hx.1 hx.2;obtain⟨gf,cf,rfl,Cs,rN⟩:=C0.Ld (by omega);have RP:=C.le;have hlr:=(C0.wa x fF).2;have cell:∀d o,d<W0.heap.size->d≠gN->W.cell? ⟨d,o,zc⟩=W0.cell? ⟨d,o,zc⟩:=λd o h1 h2=>World.cell?_of_block (ht.same d h1 h2)
   have z3:=(cell w.heap.size 0 (by omega) (by omega)).trans z0;have z5:W.cell? ⟨w2.heap.size,0,zc⟩=za (ze (za ⟨gN,0,zc⟩) nw nw):=(cell w2.heap.size 0 hsz (by omega)).trans (aO _ _ _ _ _ _ x5:_=_);have zb:=(cell r 1 (by omega) (by omega)).trans y1;have zf:=(cell gf x (by omega) (by omega)).trans (rN x fF);have eT:=((C0.wa x fF).1).kF ht (by omega);have hj:=zu nw gN (lr x) nw nw U (Lk x) W.drew ⟨hU.row,hU.lt⟩ ⟨eT.row,eT.lt⟩ (by omega) C.gY;have fE:(0:Int)<=(x:Int):=by omega
   have mj:(x:Int)<(n:Int):=by omega
   have fU:prog.follows .mixedOrders=true:=by kernel_rfl
   dsimp only
   gi_wp2
   gi_region_with_o (refine⟨trivial,?_⟩;gi_at_call 168;refine(CallsIn.inRound l (callsIn_wide.2 hj)).mono ?_;rintro e w' ⟨rfl,tj,cY⟩)
   all_goals
    gi_wp2
    refine⟨KeepsFrom.of_grownBy (W:=W) (row:=za gN) ⟨cY.os,cY.tape,cY.output,cY.size,cY.block⟩ (λj e=>by cases e;omega),λk hk=>?_,ht.grown (A:=W) (o:=za gN) ⟨cY.os,cY.tape,cY.output,cY.size,cY.block⟩ (λg e=>by cases e;exact .inl rfl),eD U (Lk x),tj,λq=>?_⟩
    ·refine cY.block k ?_ (λe=>?_)
     ·have:=ht.size;simp at hk;show k<W.heap.size;omega
     ·have e':k=gN:=by simpa using e
      simp at hk;omega
    ·rw[Iy,CZ,sw,gT];constructor
     ·rintro (⟨p,h3,h4⟩|h3)
      ·exact⟨p,er.2 (.inl h3),h4⟩
      ·exact⟨x,by simp,h3⟩
     ·rintro ⟨p,h3,h4⟩;rcases er.1 h3 with h3|h3
      ·exact .inl ⟨p,h3,h4⟩
      ·exact .inr (by rw[eM.1 h3]at h4;exact h4)
  case done=>
   rintro D ys W hD jR ⟨ht,U,hU,gT⟩ hK;have RP:=C.le;have cell:∀d o,d<W0.heap.size->d≠gN->W.cell? ⟨d,o,zc⟩=W0.cell? ⟨d,o,zc⟩:=λd o h1 h2=>World.cell?_of_block (ht.same d h1 h2)
   have z3:=(cell w.heap.size 0 (by omega) (by omega)).trans z0;have z5:W.cell? ⟨w2.heap.size,0,zc⟩=za (ze (za ⟨gN,0,zc⟩) nw nw):=(cell w2.heap.size 0 hsz (by omega)).trans (aO _ _ _ _ _ _ x5:_=_);have PX:=(cell r 0 (by omega) (by omega)).trans y0;have Xe:=(cell r 2 (by omega) (by omega)).trans y2;have wm:∀k,k<w.heap.size->W.heap[k]?=w.heap[k]?:=λk hk=>(ht.same k (by omega) (by omega)).trans (A0 k hk)
   have TI:W0.heap.size<=W.heap.size:=ht.size;have D4:∀q,ax U q=true↔∃p,p<64*nw/\ax (Ts i) p=true/\ax (Lk p) q=true:=λq=>(gT q).trans ⟨λ⟨p,h3,h4⟩=>⟨p,((jR p).1 h3).1,((jR p).1 h3).2,h4⟩,λ⟨p,h3,h4,h5⟩=>⟨p,(jR p).2 ⟨h3,h4⟩,h5⟩⟩
   have xd:∀q,q<64*nw->ax U q=true->q<n:=λq hq h3=>by
    obtain⟨p,h4,h5,h6⟩:=(D4 q).1 h3;exact C.lb p q (hS i p hi h4 h5) hq h6
   have CW:=C.keep (w':=W) (λk hk=>wm k (bA hk C.le)) (by omega);have fU:prog.follows .mixedOrders=true:=by kernel_rfl
   have J5:iE i c true=2*(256*(i:Int)+(c:Int))+1:=by unfold iE;simp
   have gvl:gv<w.heap.size:=(hO gv h.ov).2;have hj:=zu nw gN ga nw nw U A W.drew ⟨hU.row,hU.lt⟩ ⟨CW.pa.1.row,CW.pa.1.lt⟩ (by have:=C.pa.2;omega) C.gY;have zz2:gN<W.heap.size:=hU.cj;refine Ce _ _ (wpIn_wide.2 ?_);dsimp only;have Yp:zh _:=ht;have YE:zh _:=wm;have QC:zh _:=hK;clear ht wm hK Ce cell
   go_wp2_with fail
   go_region_held3 (λw'=>w'.cell? ⟨w.heap.size,0,zc⟩=za (zd (za ⟨r,0,zc⟩))/\w'.cell? ⟨w2.heap.size,0,zc⟩=za (ze (za ⟨gN,0,zc⟩) nw nw)/\w'.cell? ⟨r,2,zc⟩=za (ze (za ⟨ga,0,zc⟩) nw nw)) ((first|exact⟨z3,z5,Xe⟩|exact⟨n3,n5,n2⟩|go_keep)) ((go_at_call 168;refine hj.mono ?_;rintro e w3 ⟨rfl,xw,lB⟩;have n3:=(show w3.cell? ⟨w.heap.size,0,zc⟩=W.cell? ⟨w.heap.size,0,zc⟩from World.cell?_of_block (lB.block (w.heap.size) (by show w.heap.size<W.heap.size;omega) (by intro e;have e:w.heap.size=gN:=Option.some.inj e;omega))).trans z3;have n5:=(show w3.cell? ⟨w2.heap.size,0,zc⟩=W.cell? ⟨w2.heap.size,0,zc⟩from World.cell?_of_block (lB.block (w2.heap.size) (by show w2.heap.size<W.heap.size;omega) (by intro e;have e:w2.heap.size=gN:=Option.some.inj e;omega))).trans z5;have n2:=(show w3.cell? ⟨r,2,zc⟩=W.cell? ⟨r,2,zc⟩from World.cell?_of_block (lB.block r (by show r<W.heap.size;omega) (by intro e;have e:r=gN:=Option.some.inj e;omega))).trans Xe))
   have n0:=(show w3.cell? ⟨r,0,zc⟩=W.cell? ⟨r,0,zc⟩from World.cell?_of_block (lB.block r (by show r<W.heap.size;omega) (by intro e;have e:r=gN:=Option.some.inj e;omega))).trans PX;have mh:W.heap.size<=w3.heap.size:=lB.size;have EI:∀k,k<w.heap.size->w3.heap[k]?=w.heap[k]?:=λk hk=>(lB.block k (by show k<W.heap.size;omega) (by intro e;have e:k=gN:=Option.some.inj e;omega)).trans (YE.out k hk)
   have K3:w3.heap[D]?=za (.deferred (za [])):=(lB.block D (ap.1 QC.out).1 (by intro e;have e:D=gN:=Option.some.inj e;omega)).trans QC.out;have ht:=Yp.out;have FE:=C.keep (w':=w3) (λk hk=>EI k (bA hk C.le)) (by omega);obtain⟨X,hX⟩:∃X,w3.drew=X:=⟨_,rfl⟩;have Jt:X.os=w.os:=by rw[<-hX];exact(show w3.os=_ from lB.os).trans ((show W.os=_ from ht.os).trans (ae.os.trans ak.os))
   have Jv:X.tape=w.tape:=by rw[<-hX];exact(show w3.tape=_ from lB.tape).trans ((show W.tape=_ from ht.tape).trans (ae.tape.trans ak.tape))
   have Js:X.output=w.output:=by rw[<-hX];exact(show w3.output=_ from lB.output).trans ((show W.output=_ from ht.output).trans (ae.output.trans ak.output))
   have DF:w.heap.size<=X.heap.size:=by rw[<-hX];show _<=w3.heap.size;omega
   have Ju:∀k,k<w.heap.size->X.heap[k]?=w.heap[k]?:=by rw[<-hX];exact EI
   have Xn:∀q,q<64*nw->ax (eD U A) q=true->q<n:=λq hq h3=>by
    rw[Iy,sw]at h3;exact h3.elim (xd q hq) (C.ab q hq)
   have Xq:∀q,q<64*nw->(ax (eD U A) q=true↔(∃p,p<64*nw/\ax (Ts i) p=true/\ax (Lk p) q=true)\/(true=true/\ax A q=true)):=λq _=>by
    rw[Iy,sw,D4];exact or_congr Iff.rfl ⟨λh=>⟨rfl,h⟩,λh=>h.2⟩
   have fL:=zkz n nw bt gN nw c sv fv mk f (eD U A) w3.drew FE.box (λhn=>by obtain⟨gs,cs,e1,e2,e3⟩:=FE.CU hn;exact⟨gs,cs,e1,by show gs<w3.heap.size;omega,e3⟩) (λp hp=>(FE.pS p hp).1) ⟨xw.row,xw.lt⟩ Xn FE.gY hc FE.dR (by show 0<w3.heap.size;omega);rw[hX]at fL;have xv:=λ(w5:zk) (g4:Nat) (U4:Nat->Nat) (hb:zj X.heap.size X w5) (pL:X.heap.size<=g4) (hp:aH w5 nw g4 U4) (D7:∀q,ax U4 q=true↔q<64*nw/\ax (eD U A) q=true/\f q c=true)=>zkd C h hM hS (b:=true) hi hc hm hk (w5:=w5) (hb.os.trans Jt) (hb.tape.trans Jv) (hb.output.trans Js) (aU DF hb.size) (λk hk=>(hb.block k (bA hk DF)).trans (Ju k hk)) (g4:=g4) (U4:=U4) (aU DF pL) hp (λq hq=>Xn q ((D7 q).1 hq).1 ((D7 q).1 hq).2.1) (λq hq=>by
    rw[D7 q];constructor
    ·rintro ⟨_,h3,h4⟩;exact⟨h4,(Xq q hq).1 h3⟩
    ·rintro ⟨h3,h4⟩;exact⟨hq,(Xq q hq).2 h4,h3⟩)
   simp only[J5]at xv;have re:zh (∀k,O k->k<w.heap.size):=λk hk=>(hO k hk).2
   have Hh:zh (xv=xv):=rfl;clear Hh h hM hS hO C C0 CW FE HW gT jR hU h1 Rt Ef Cq b0 b1 b2 b3 b4 b5 b6 b7 c0 x0 y0 y1 y2 y5 y7 z0 yN Lx GQ rK J5;have X3:X.cell? ⟨w.heap.size,0,zc⟩=za (zd (za ⟨r,0,zc⟩)):=by rw[<-hX];exact n3
   have X5:X.cell? ⟨w2.heap.size,0,zc⟩=za (ze (za ⟨gN,0,zc⟩) nw nw):=by rw[<-hX];exact n5
   have X0:X.cell? ⟨r,0,zc⟩=za (zd (za ⟨bt,0,zc⟩)):=by rw[<-hX];exact n0
   have XD:X.heap[D]?=za (.deferred (za [])):=by rw[<-hX];exact K3
   have Rc:D<X.heap.size:=(ap.1 XD).1;have Rf:w.heap.size<X.heap.size:=by rw[<-hX];show _<w3.heap.size;omega
   have Re:w2.heap.size<X.heap.size:=by rw[<-hX];show _<w3.heap.size;omega
   have Xr:r<X.heap.size:=by omega
   have zyR:w.heap.size<=w2.heap.size:=by omega
   have RQ:w.heap.size<=D:=by omega
   have Qt:zh _:=XD;clear XD QC ht YE Yp K3 EI D4 xd Jt Jv Js Ju Xn Xq A0 hj xw lB
   go_wp2_with fail
   go_region_held3 (λw'=>w'.cell? ⟨w.heap.size,0,zc⟩=za (zd (za ⟨r,0,zc⟩))/\w'.cell? ⟨w2.heap.size,0,zc⟩=za (ze (za ⟨gN,0,zc⟩) nw nw)/\w'.cell? ⟨r,0,zc⟩=za (zd (za ⟨bt,0,zc⟩))) ((first|exact⟨X3,X5,X0⟩|exact⟨n3,n5,n0⟩|exact⟨q3,q5,q0⟩|exact⟨p3,p5,p0⟩|go_keep)) ((first|(go_at_call 170;refine fL.mono ?_;rintro e w5 ⟨g4,U4,rfl,pL,Kw,aG,pI⟩;have q3:=(pI.cell (p:=⟨w.heap.size,0,zc⟩) Rf).trans X3;have q5:=(pI.cell (p:=⟨w2.heap.size,0,zc⟩) Re).trans X5;have q0:=(pI.cell (p:=⟨r,0,zc⟩) Xr).trans X0)|(go_at_call 169;refine(xv w5 g4 U4 pI pL Kw aG).mono ?_;rintro e w6 ⟨t,W7,rfl,uQ,zm6,p0,TD,RL,HR⟩;have p3:w6.cell? ⟨w.heap.size,0,zc⟩=za (zd (za ⟨r,0,zc⟩)):=(World.cell?_of_block (uQ.same w.heap.size (by have:=pI.size;omega) (λe=>by have:=re.out _ e;omega))).trans q3;have p5:w6.cell? ⟨w2.heap.size,0,zc⟩=za (ze (za ⟨gN,0,zc⟩) nw nw):=(World.cell?_of_block (uQ.same w2.heap.size (by have:=pI.size;omega) (λe=>by have:=re.out _ e;omega))).trans q5)))
   all_goals
    have JP:W7.heap[D]?=za (.deferred (za [])):=by
     rw[RL D (by omega),uQ.same D (by have:=pI.size;omega) (λe=>by have:=re.out _ e;omega),pI.block D Rc];exact Qt.out
    have IZ:=HR.out D RQ JP;have lq:zh _:=IZ;clear IZ HR xv fL;go_wp2;refine⟨by simp,.inl ⟨_,_,rfl,run_takeDeferred JP,?_⟩⟩;exact⟨zg .i64 t,by simp[results,results147,go_sem],lq.out⟩
end
section
open Go.RowKit
attribute [local go_sem ↓] wp_at_zero wp_at_succ
theorem zs3{B:Nat}{O:Nat->Prop}{w:zk}{n r nw bt ga gl:Nat}{lv sv fv:zl}{lr mk:Nat->Nat}{Lk:Nat->Nat->Nat}{A L:Nat->Nat}{f:Nat->Nat->Bool}{gm gv:Nat}{sS sP:zl}{gx:Nat->Nat}{Ts:Nat->Nat->Nat}{m:Nat}{es:List (Int×Int)}(C:pE B w n nw bt ga gl lv sv fv lr mk Lk A L f)(hO:∀k,O k->B<=k/\k<w.heap.size)(h:eZ O w r nw bt ga gl lv L gm gv sS sP gx Ts m es)(hM:uc nw f Lk A Ts m es)(hS:Fw n nw Ts m)(i c:Nat)(b:Bool)(hi:i<m)(hc:c<256)(hm:m<=100000000):
  zm prog 147 #[zd (za ⟨r,0,zc⟩),zg .i64 i,.int .u8 c,.bool b] w λe w'=>II O w n r nw bt ga gl lv f Lk A L gm gv gx Ts m i c b e w':=by
 by_cases hk:iE i c b∈ep es
 ·refine(zrI h hM hS i c b hc hi hm hk).mono λe w' hR=>?_
  obtain⟨t,m',EH,EG,pF,iT,es',h1,h2,h3⟩:=hR;exact⟨t,m',EH,EG,pF,iT,es',h1,h2,h3⟩
 ·exact zrH C hO h hM hS i c b hi hc hm hk
def QU(w:zk)(nw bt ga gl:Nat)(lv:zl)(L:Nat->Nat)(e:Ending)(w':zk):Prop:=
 ∃(r gm gv:Nat) (sS sP:zl) (gx:Nat->Nat) (Ts:Nat->Nat->Nat),e=.returned (zd (za ⟨r,0,zc⟩))/\eZ (λk=>w.heap.size<=k/\k<w'.heap.size) w' r nw bt ga gl lv L gm gv sS sP gx Ts 1 []/\(∀x,x<nw->Ts 0 x=0)/\zj w.heap.size w w'
theorem zf5(nw bt ga gl ln lc:Nat)(la:Option Addr)(sv fv:zl)(L:Nat->Nat)(w:zk)(gU:vf w bt nw sv fv)(hL:aH w nw gl L)(bV:nw<=1000):
  zm prog 161 #[zd (za ⟨bt,0,zc⟩),.slice la ln lc,ze (za ⟨ga,0,zc⟩) nw nw,ze (za ⟨gl,0,zc⟩) nw nw] w λe w'=>QU w nw bt ga gl (.slice la ln lc) L e w':=by
 obtain⟨W1,cC⟩:∃W1,((w.alloc (.map #[] 0)).alloc (.map #[] 0)).alloc (zi #[zd (za ⟨bt,0,zc⟩),.slice la ln lc,ze (za ⟨ga,0,zc⟩) nw nw,ze (za ⟨gl,0,zc⟩) nw nw,.map (za w.heap.size),ze zc 0 0,ze zc 0 0,.map (za (w.heap.size+1))] 234)=W1:=⟨_,rfl⟩;have ak:zj w.heap.size w W1:=by rw[<-cC];exact((au).alloc (by simp) _).alloc (by simp;omega) _
 have e0:W1.heap[w.heap.size]?=za (.map #[] 0):=by rw[<-cC];exact cQ (cQ (aL _ _))
 have e1:W1.heap[w.heap.size+1]?=za (.map #[] 0):=by
  rw[<-cC];have:=aL (w.alloc (.map #[] 0)) (.map #[] 0);exact cQ (by simpa using this)
 have e2:W1.heap[w.heap.size+1+1]?=za (zi #[zd (za ⟨bt,0,zc⟩),.slice la ln lc,ze (za ⟨ga,0,zc⟩) nw nw,ze (za ⟨gl,0,zc⟩) nw nw,.map (za w.heap.size),ze zc 0 0,ze zc 0 0,.map (za (w.heap.size+1))] 234 (0,0)):=by
  rw[<-cC];have:=aL ((w.alloc (.map #[] 0)).alloc (.map #[] 0)) (zi #[zd (za ⟨bt,0,zc⟩),.slice la ln lc,ze (za ⟨ga,0,zc⟩) nw nw,ze (za ⟨gl,0,zc⟩) nw nw,.map (za w.heap.size),ze zc 0 0,ze zc 0 0,.map (za (w.heap.size+1))] 234)
  simpa using this
 have hs:w.heap.size+1+1<W1.heap.size:=(ap.1 e2).1;have hno:=Fl nw bt sv fv W1 ((ak.block bt (ap.1 gU).1).trans gU) bV;have CB:=λ(W:zk) (hb:zj W1.heap.size W1 W) (hp:aH W nw W1.heap.size cK)=>zd4 (O:=λk=>w.heap.size<=k/\k<W1.heap.size) (w:=W) (r:=w.heap.size+1+1) (nw:=nw) (bt:=bt) (ga:=ga) (gl:=gl) (lv:=.slice la ln lc) (L:=L) (gm:=w.heap.size) (gv:=w.heap.size+1) (sS:=ze zc 0 0) (sP:=ze zc 0 0) (gx:=λ_=>0) (Ts:=λ_=>cK) (m:=0) (es:=[])
  ⟨(hb.block _ hs).trans e2,(hb.block _ (by omega)).trans e0,(hb.block _ (by omega)).trans e1,⟨rfl,.inl ⟨rfl,rfl⟩⟩,⟨rfl,.inl ⟨rfl,rfl⟩⟩,λi hi=>by omega,by omega,⟨by omega,hs⟩,⟨ai _,by omega⟩,⟨by omega,by omega⟩,λk e=>by simp[Value.ownBlock]at e,λk e=>by simp[Value.ownBlock]at e,λi hi=>by omega,λi j hi=>by omega⟩
  W1.heap.size cK hp ((hL.below ak).below hb) bV (by omega)
 clear e0 e1 e2;have nX:=@run_makeMap prog
 go_enter func161,ntmps161
 go_wp2_with (go_at_call 164;refine hno.mono ?_;rintro e w2 ⟨rfl,bz,bU⟩)
 have af:zj W1.heap.size W1 w2:=⟨bU.os,bU.tape,bU.output,bU.size,λk hk=>bU.block k hk (by simp)⟩;refine(CB w2 af bz).mono ?_;rintro e w3 ⟨i,m',EH,EG,pF,iT,rfl,hR,hi,cO,cD,hold,kS,qy,tc⟩;have Gw:=aj ak ak.size af;have lq:zh (QU w nw bt ga gl (.slice la ln lc) L (.returned (zd (za ⟨w.heap.size+1+1,0,zc⟩))) w3):=by
  have e1:m'=1:=by omega
  have e0:i=0:=by omega
  subst e1 e0;refine⟨_,_,_,EH,EG,pF,iT,rfl,hR.lt.mono λk ⟨ho,hl⟩=>⟨?_,hl⟩,kS,tc.os.trans Gw.os,tc.tape.trans Gw.tape,tc.output.trans Gw.output,aU Gw.size tc.size,λk hk=>?_⟩
  ·have:=af.size;rcases ho with ho|ho|ho<;>omega
  ·rw[tc.same k (by have:=Gw.size;omega) (λe=>by omega)];exact Gw.block k hk
 clear hR hold kS qy tc CB hno nX;go_wp2;exact bD (v:=zd (za ⟨w.heap.size+1+1,0,zc⟩)) (by simp[results,results161,go_sem]) rfl lq.out
end
def PA.Tk(M:PA)(L:aJ->Prop):Prop:=Good M.tk M.fol M.D M.e M.first M.last L
section
variable {M N:PA} {L K:aJ->Prop}
theorem Ir(h:M.Tk L)(e:∀u,L u↔K u):M.Tk K:=Good.words h e
theorem ztO(h:M.Tk L):M.uO.Tk (λu=>u=[]\/L u):=Good.uO h
theorem zqf(h:M.Tk L)(dj:∀p,M.D p->¬N.D p):Good (λp c=>(M.D p/\M.tk p c)\/(N.D p/\N.tk p c)) (λp q=>(M.D p/\M.fol p q)\/(N.D p/\N.fol p q)) M.D M.e M.first M.last L:=
 (Good.congr h λp _ hp=>⟨λk=>k.elim (λx=>x.2) (λx=>absurd x.1 (dj p hp)),λk=>.inl ⟨hp,k⟩⟩).tk λp _ hp=>⟨λk=>k.elim (λx=>x.2) (λx=>absurd x.1 (dj p hp)),λk=>.inl ⟨hp,k⟩⟩
theorem zmK(h:N.Tk K)(dj:∀p,M.D p->¬N.D p):Good (λp c=>(M.D p/\M.tk p c)\/(N.D p/\N.tk p c)) (λp q=>(M.D p/\M.fol p q)\/(N.D p/\N.fol p q)) N.D N.e N.first N.last K:=
 (Good.congr h λp _ hp=>⟨λk=>k.elim (λx=>absurd hp (dj p x.1)) (λx=>x.2),λk=>.inr ⟨hp,k⟩⟩).tk λp _ hp=>⟨λk=>k.elim (λx=>absurd hp (dj p x.1)) (λx=>x.2),λk=>.inr ⟨hp,k⟩⟩
theorem ztN(h:M.Tk L)(k:N.Tk K)(dj:∀p,M.D p->¬N.D p):(M.aQ N).Tk (λu=>L u\/K u):=zqU (zqf h dj) (zmK k dj) dj
theorem Xd(h:M.Tk L)(k:N.Tk K)(dj:∀p,M.D p->¬N.D p):(M.seq N).Tk (λu=>∃x y,u=x++y/\L x/\K y):=zqW (zqf h dj) (zmK k dj) dj (λ_ _ _=>Iff.rfl) (λ_=>Iff.rfl) (λ_=>Iff.rfl)
theorem ztf(h:M.Tk L):M.star.Tk (λu=>∃k,Pow L k u):=zoZ h λ_ _ _=>Iff.rfl
end
theorem ztP{f:Nat->PA}{c:Nat}{L:aJ->Prop}(hf:∀s,(f s).Tk L)(hD:∀s p,(f s).D p↔s<=p/\p<s+c)(n:Nat):∀j,(xL f c n j).Tk (Jq L j)
 |0=>Ir (zoY _ _ (true=true)) λu=>⟨λh=>(zkC L u).1 ⟨h.1,trivial⟩,λh=>⟨((zkC L u).2 h).1,rfl⟩⟩
 |j+1=>Ir (ztO (Xd (hf _) (ztP hf hD n j) λp h1 h2=>by rw[hD]at h1;rw[IK hD]at h2;omega)) λu=>zql L j u
theorem Xk{f:Nat->PA}{c:Nat}{y:PA}{n s:Nat}{L K:aJ->Prop}(hf:∀s,(f s).Tk L)(hD:∀s p,(f s).D p↔s<=p/\p<s+c)(hy:y.Tk K)(hyD:∀p,y.D p↔n<=p/\p<s)(hs:n<=s):∀k,(vB f c y s k).Tk (IF L K k)
 |0=>Ir hy λu=>zmV L K u
 |k+1=>Ir (Xd (hf _) (Xk hf hD hy hyD hs k) λp h1 h2=>by rw[hD]at h1;rw[IJ hD hyD hs]at h2;omega) λu=>zmU L K k u
theorem xR:∀(p:Pt),oO p->∀n,(bY p n).Tk (In p)
 |.set f,_,n=>zqV (λc=>⟨λh=>h.2,λh=>⟨rfl,h⟩⟩) (λ_ h=>h)
 |.seq l r,ho,n=>Xd (xR l ho.1 n) (xR r ho.2 _) λp h1 h2=>by rw[lN]at h1 h2;omega
 |.aQ l r,ho,n=>ztN (xR l ho.1 n) (xR r ho.2 _) λp h1 h2=>by rw[lN]at h1 h2;omega
 |.aw b mn mx,ho,n=>by
  obtain⟨h1,h2,h3⟩:=ho;obtain⟨m,rfl⟩:∃m:Nat,mn=m:=⟨mn.toNat,by omega⟩
  by_cases h:mx=-1
  ·subst h;rw[<-zke];exact Ir (Xk (n:=n) (xR b h1) (lN b) (ztf (xR b h1 n)) (zsj b n) (by omega) m) (zrN b m)
  ·obtain⟨d,rfl⟩:∃d:Nat,mx=((m+d:Nat):Int):=⟨(mx-m).toNat,by omega⟩;rw[<-zkf];exact Ir (Xk (n:=n) (xR b h1) (lN b) (ztP (xR b h1) (lN b) n d) (IK (lN b) n d) (by omega) m) (zrO b m d)
 |.aT b _,ho,n=>xR b ho n
theorem zr7(b:Pt)(n:Nat):bY (.aw b 0 (-1)) n=(bY b n).star:=by
 rw[bY,aD rfl];rfl
inductive gO (u:aJ) (M:PA) (E:Nat->Prop):Nat->Nat->Prop
 |stop (i p:Nat) (c:UInt8):u[i]?=za c->M.tk p c->M.D p->M.last p->E (i+1)->gO u M E i p
 |on (i p q:Nat) (c:UInt8):u[i]?=za c->M.tk p c->M.D p->M.fol p q->gO u M E (i+1) q->gO u M E i p
def jm(u:aJ)(M:PA)(i j p:Nat):Prop:=i<j/\j<=u.length/\cN M.tk M.fol M.first ((u.drop i).take (j-i)) p
theorem zie(u:aJ){i j:Nat}{c:UInt8}(h:i<=j)(hc:u[j]?=za c):(u.drop i).take (j+1-i)=(u.drop i).take (j-i)++[c]:=by
 have hj:=(vp.1 hc).1;rw[U7 u h (Nat.le_succ j),show j+1-j=1 from by omega,oC hj];have:u[j]=c:=(vp.1 hc).2;rw[this]
 rfl
theorem zmE(u:aJ){i j:Nat}(h:i<j)(hj:j<=u.length):(u.drop i).take (j-i)≠[]:=by
 intro e;have:=congrArg List.length e;simp at this;omega
theorem PB{u:aJ}{M:PA}{i p:Nat}{c:UInt8}(hc:u[i]?=za c):jm u M i (i+1) p↔M.first p/\M.tk p c:=by
 have hj:=(vp.1 hc).1;unfold jm;rw[zie u (ai i) hc,zz];show i<i+1/\i+1<=u.length/\cN M.tk M.fol M.first [c] p↔_;rw[zs8];exact⟨λh=>h.2.2,λh=>⟨by omega,hj,h⟩⟩
theorem LW{u:aJ}{M:PA}{i j q:Nat}{c:UInt8}(dA:i<j)(hc:u[j]?=za c):jm u M i (j+1) q↔∃p,jm u M i j p/\M.fol p q/\M.tk q c:=by
 have hj:=(vp.1 hc).1;unfold jm;rw[zie u (Nat.le_of_lt dA) hc,zrR (zmE u dA (by omega))];constructor
 ·rintro ⟨-,-,p,h1,h2⟩;exact⟨p,⟨dA,by omega,h1⟩,h2⟩
 ·rintro ⟨p,⟨-,-,h1⟩,h2⟩;exact⟨by omega,hj,p,h1,h2⟩
theorem WW{u:aJ}{M:PA}{p:Pt}(h:M.Tk (In p)){i j:Nat}(dA:i<j)(hj:j<=u.length):Lg u p i j↔∃q,jm u M i j q/\M.last q:=by
 unfold Lg jm;rw[<-h.mm,zqA (zmE u dA hj)];exact⟨λ⟨_,_,q,h1,h2⟩=>⟨q,⟨dA,hj,h1⟩,h2⟩,λ⟨q,⟨_,_,h1⟩,h2⟩=>⟨by omega,hj,q,h1,h2⟩⟩
theorem WK{u:aJ}{M:PA}{p:Pt}(h:M.Tk (In p)){i:Nat}(hi:i<=u.length):Lg u p i i↔M.e:=by
 unfold Lg;rw[zz,tV,<-h.mm,zso];exact⟨λh=>h.2.2,λh=>⟨ai _,hi,h⟩⟩
theorem zqS{u:aJ}{M:PA}{E:Nat->Prop}:∀{j p:Nat},gO u M E j p->∀i,i<j+1->jm u M i (j+1) p->∃m q,j<m/\E m/\jm u M i m q/\M.last q:=by
 intro j p h
 induction h with
 |stop j p c h1 h2 h3 h4 h5=>intro i hi hf;exact⟨j+1,p,by omega,h5,hf,h4⟩
 |on j p q c h1 h2 h3 h4 h5 ih=>
  intro i hi hf;have hc:∃d,u[j+1]?=za d/\M.tk q d:=by
   cases h5 with
   |stop _ _ d a b=>exact⟨d,a,b⟩
   |on _ _ _ d a b=>exact⟨d,a,b⟩
  obtain⟨d,hd,hq⟩:=hc;obtain⟨m,r,a,b,c,e⟩:=ih i (by omega) ((LW hi hd).2 ⟨p,hf,h4,hq⟩);exact⟨m,r,by omega,b,c,e⟩
theorem zog{u:aJ}{M:PA}{E:Nat->Prop}{i p:Nat}{c:UInt8}(hc:u[i]?=za c):gO u M E i p↔M.tk p c/\M.D p/\((M.last p/\E (i+1))\/∃q,M.fol p q/\gO u M E (i+1) q):=by
 constructor
 ·intro h;cases h with
  |stop _ _ d a b e f g=>rw[hc]at a;cases a;exact⟨b,e,.inl ⟨f,g⟩⟩
  |on _ _ q d a b e f g=>rw[hc]at a;cases a;exact⟨b,e,.inr ⟨q,f,g⟩⟩
 ·rintro ⟨h1,h2,⟨h3,h4⟩|⟨q,h3,h4⟩⟩
  ·exact .stop i p c hc h1 h2 h3 h4
  ·exact .on i p q c hc h1 h2 h3 h4
theorem gO.byte{u:aJ}{M:PA}{E:Nat->Prop}{i p:Nat}(h:gO u M E i p):∃c,u[i]?=za c/\M.tk p c/\M.D p:=by
 cases h with
 |stop _ _ d a b c=>exact⟨d,a,b,c⟩
 |on _ _ _ d a b c=>exact⟨d,a,b,c⟩
theorem jm.byte{u:aJ}{M:PA}{i j p:Nat}(h:jm u M i (j+1) p)(dA:i<=j):∃c,u[j]?=za c/\M.tk p c:=by
 have hj:=h.2.1;obtain⟨c,hc⟩:∃c,u[j]?=za c:=⟨_,eY (by omega)⟩;refine⟨c,hc,?_⟩
 by_cases e:i<j
 ·obtain⟨_,_,_,h⟩:=(LW e hc).1 h;exact h
 ·obtain rfl:i=j:=by omega
  exact((PB hc).1 h).2
theorem VX{u:aJ}{M N:PA}{E:Nat->Prop}(hD:∀p,M.D p->N.D p)(ht:∀p c,M.tk p c->N.tk p c)(hf:∀p q,M.fol p q->N.fol p q)(fi:∀p,M.first p->M.D p)(fo:∀p q,M.D p->M.fol p q->M.D q){i:Nat}:∀(k x q:Nat),jm u M i (x+1) q->gO u N E x q->∀j,j+k=x->i<=j->∃p,jm u M i (j+1) p/\gO u N E j p
 |0,x,q,h1,h2,j,hj,_=>by
  obtain rfl:j=x:=hj;exact⟨q,h1,h2⟩
 |k+1,x,q,h1,h2,j,hj,dA=>by
  obtain⟨y,rfl⟩:∃y,x=y+1:=⟨x-1,by omega⟩;obtain⟨c,hc,_⟩:=h1.byte (by omega);obtain⟨p,h3,h4,_⟩:=(LW (by omega) hc).1 h1;obtain⟨d,hd,fL⟩:=h3.byte (by omega);exact VX hD ht hf fi fo k y p h3 (.on y p q d hd (ht _ _ fL) (hD _ (h3.2.2.inside fi fo)) (hf _ _ h4) h2) j (by omega) dA
def zR(u:aJ)(M:PA)(E:Nat->Prop)(m:Nat):Prop:=(E m/\M.e)\/∃p,M.first p/\gO u M E m p
theorem ztM{u:aJ}{M:PA}{p:Pt}(h:M.Tk (In p)){E:Nat->Prop}(hE:∀m,E m->m<=u.length)(m:Nat):zR u M E m↔∃e,E e/\Lg u p m e:=by
 constructor
 ·rintro (⟨h1,h2⟩|⟨q,h1,h2⟩)
  ·exact⟨m,h1,(WK h (hE m h1)).2 h2⟩
  ·obtain⟨c,hc,fL,_⟩:=h2.byte;obtain⟨x,r,a,b,c',d⟩:=zqS h2 m (by omega) ((PB hc).2 ⟨h1,fL⟩);exact⟨x,b,(WW h (by omega) (hE x b)).2 ⟨r,c',d⟩⟩
 ·rintro ⟨e,h1,h2⟩;have ti:=h2.1;rcases gh m e with hlt|gV
  ·obtain⟨q,h3,h4⟩:=(WW h hlt (hE e h1)).1 h2;obtain⟨x,rfl⟩:∃x,e=x+1:=⟨e-1,by omega⟩;obtain⟨c,hc,fL⟩:=h3.byte (by omega);obtain⟨r,h5,h6⟩:=VX (N:=M) (E:=E) (λ_ h=>h) (λ_ _ h=>h) (λ_ _ h=>h) h.fi h.fo (x-m) x q h3 (.stop x q c hc fL (h3.2.2.inside h.fi h.fo) h4 h1) m (by omega) (ai _);obtain⟨d,hd,_⟩:=h6.byte;exact .inr ⟨r,((PB hd).1 h5).1,h6⟩
  ·obtain rfl:m=e:=by omega
   exact .inl ⟨h1,(WK h (hE m h1)).1 h2⟩
theorem zpY{u:aJ}{M:PA}{L:aJ->Prop}(h:M.Tk L){E:Nat->Prop}{i m q:Nat}(hf:jm u M i m q)(hl:M.last q)(hs:zR u M.star E m)(j:Nat)(dA:i<=j)(SV:j<m):∃p,jm u M i (j+1) p/\gO u M.star E j p:=by
 obtain⟨x,rfl⟩:∃x,m=x+1:=⟨m-1,by omega⟩;obtain⟨c,hc,fL⟩:=hf.byte (by omega);have hD:=hf.2.2.inside h.fi h.fo;refine VX (M:=M) (N:=M.star) (E:=E) (λ_ h=>h) (λ_ _ h=>h) (λ_ _ h=>.inl h) h.fi h.fo (x-j) x q hf ?_ j (by omega) dA;rcases hs with ⟨h1,_⟩|⟨p,h1,h2⟩
 ·exact .stop x q c hc fL hD hl h1
 ·exact .on x q p c hc fL hD (.inr ⟨hl,h1⟩) h2
end Go.Proofs.YtdimhpfiieepiaaGreatDoor
