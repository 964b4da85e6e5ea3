import Derived.Test.YtdimhpfiieepiaaGreatDoorC28
import Derived.Deep.RegionHeld3
namespace Go.Proofs.YtdimhpfiieepiaaGreatDoor
open Proofs.Tryz
open Option renaming some->za,none->zc
open Value renaming slice->zd,pointer->zi,int->zj
open Obj renaming cells->ze
open Go renaming Value->zf,World->zg,TypeId->zk,Calls->zn
open RowKit renaming Below->zh,Hid->zm
set_option maxHeartbeats 4000000
set_option maxRecDepth 100000
open Go.RowKit
section
variable {w:zg}{B n:Nat}{v:zf}{xs:List zf}
attribute [local go_sem ↓] wp_at_zero wp_at_succ
theorem C6{e:zk}(h:w.ownsRow B e 1 v n xs):∃a c,v=.slice a n c:=by
 rcases h.2 with ⟨rfl,rfl⟩|⟨g,cap,_,rfl,_⟩
 ·exact⟨zc,0,rfl⟩
 ·exact⟨_,_,rfl⟩
theorem ki{k:Nat}{e:zk}(h:w.ownsRow B e 1 v n xs)(hk:v.ownBlock=za k):B<=k/\∃aA,w.heap[k]?=za (ze aA e (0,0)):=by
 rcases h.2 with ⟨rfl,_⟩|⟨g,cap,aA,rfl,hg,hh,_⟩
 ·simp[Value.ownBlock]at hk
 ·simp[Value.ownBlock]at hk;subst hk;exact⟨hg,aA,hh⟩
theorem Tryz.zy0:(prog.info? 295).map (λi=>(i.zero,i.size,i.bytes))=za (za (zi zc),1,8):=by kernel_rfl
theorem Tryz.K0:(prog.info? 193).map (λi=>(i.zero,i.size,i.bytes))=za (za (zd zc 0 0),1,24):=by kernel_rfl
def BQ(ats:Array zk)(ty:zk)(args:Array zf):Sem zf:=Builtin.append_ ats ty args
theorem V8{P:Program}{ops:Array Oper}{o:Oper}{a:Act}{K:Act->zg->Prop}{Q:Exit->Act->zg->Prop}{E:Prop}(lY:o.guard=zc)(s x:Operand)(t:zk)(hop:o.op=Op.call {callee:=Callee.builtin Builtin.append,args:=#[s,x],argTypes:=#[t,t]})(u y:zf)(hu:a.eval s=u)(hy:a.eval x=y)(v:zf)(w':zg)
  (hrun:(BQ #[t,t] o.type #[u,y]).run P w=.ok v w') (hK:K (a.put o.dst v) w'):if Region.wanted o (yielded ops a.tmps)=true then Oper.wp P o a w K Q else E:=by
 have hw:Region.wanted o (yielded ops a.tmps)=true:=by simp[Region.wanted,lY]
 rw[aD hw];unfold BQ at hrun;unfold Oper.wp;simp[execOp,hop,resolve,invoke,builtin,hu,hy,hrun,Result.andThen];exact hK
theorem zjB(xs:Array zf)(w:zg):(callFunc 164 xs).run prog w=.ok (.enter 164 xs) w:=by kernel_rfl
theorem zig{e:zk}(h:w.ownsRow B e 1 v (n+1) xs):∃g c,v=zd (za ⟨g,0,zc⟩) (n+1) c:=by
 rcases h.2 with ⟨_,h0⟩|⟨g,cap,_,rfl,_⟩
 ·omega
 ·exact⟨_,_,rfl⟩
theorem zmX(B n nw bt gn:Nat)(fv r:zf)(fr:Nat->Nat)(w7:zg)(rL:w7.ownsRow B 193 1 fv n (gJ fr nw n))(uy:w7.heap[bt]?=za (ze #[zj .i64 nw,r,fv] 268 (0,0)))(hB:B<=w7.heap.size)(hn:n<=64000):
  ∃g8 fB w8,(BQ #[227,227] 227 #[fv,zd (za ⟨w7.heap.size,0,zc⟩) 1 1]).run prog (w7.alloc (ze #[zd (za ⟨gn,0,zc⟩) nw nw] 193))=.ok (zd (za ⟨g8,0,zc⟩) (n+1) fB) w8/\w8.ownsRow B 193 1 (zd (za ⟨g8,0,zc⟩) (n+1) fB) (n+1) (gJ fr nw n++[zd (za ⟨gn,0,zc⟩) nw nw])/\
   w7.grownBy w8 fv.ownBlock/\w8.heap[bt]?=za (ze #[zj .i64 nw,r,fv] 268 (0,0)):=by
 obtain⟨i1,hj,qB,kW,n9⟩:=info_parts Tryz.K0;obtain⟨v',w8,kR,az,cR,-⟩:=run_append_own (P:=prog) (w7.alloc (ze #[zd (za ⟨gn,0,zc⟩) nw nw] 193)) B 227 227 193 i1 _ 1 24 underlying227 hj qB kW n9 rfl (by decide) fv n (gJ fr nw n) (rL.alloc _) ⟨w7.heap.size,0,zc⟩ 1 1 [zd (za ⟨gn,0,zc⟩) nw nw] rfl (λj u hj=>by
   match j,hj with
   |0,hj=>simp at hj;subst hj;simp[Addr.add]) (by intro u hu;simp at hu;subst hu;rfl) (by unfold maxLen;omega) (by omega) (by simp;omega)
 obtain⟨g8,fB,rfl⟩:=zig az;have zvI:w7.grownBy w8 fv.ownBlock:=⟨cR.os,cR.tape,cR.output,aU (by simp) cR.size,λk hk hne=>by rw[cR.block k (by simp;omega) hne,Below.heap_alloc _ _ _ hk]⟩;refine⟨g8,fB,w8,kR,az,zvI,(zvI.block bt (ap.1 uy).1 (λe=>?_)).trans uy⟩;obtain⟨-,aA,e3⟩:=ki rL e.symm;rw[uy]at e3;exact absurd (bP e3) (by decide)
theorem aE.drew{S:Nat->Prop}{W:zg}(h:aE S w W):aE S w W.drew:=⟨h.os,h.tape,h.output,h.size,h.same⟩
theorem zrE{nw bt mg ga gl g5 gF g8 fB:Nat}{sv fv:zf}{mk:Nat->Nat}{f:Nat->Nat->Bool}{fr:Nat->Nat}{F:Nat->Nat->Nat}{g:Nat->Bool}{w4 w5 W6 w7 w8:zg}(h:jp B w n nw bt sv fv mk f fr F)(hn:n<64*nw)(na:w.heap.size<=ga)(nl:w.heap.size<=gl)
  (H1:jp B w4 n nw bt sv fv mk f fr F/\(∀(k:Nat) (cs:Array zf) (t:zk),w4.heap[k]?=za (ze cs t (0,0))->t≠295->t≠268->W6.heap[k]?=za (ze cs t (0,0)))/\W6.ownsRow B 295 1 (zd (za ⟨g5,0,zc⟩) (n+1) gF) (n+1) (xH mk n++[zi (za ⟨mg,0,zc⟩)])/\zh w.heap.size w w4/\w4.grownBy w5 sv.ownBlock/\w5.grownBy W6 (za bt))
  (H2:W6.heap[bt]?=za (ze #[zj .i64 nw,zd (za ⟨g5,0,zc⟩) (n+1) gF,fv] 268 (0,0))/\w4.heap[mg]?=za (ze (dv g) 293 (0,0))/\mI w4 nw ga gl (kP cK n) (kP cK n)/\(∀k,sv.ownBlock=za k->B<=k/\∃aA,w4.heap[k]?=za (ze aA 295 (0,0))))
  (H8:w8.ownsRow B 193 1 (zd (za ⟨g8,0,zc⟩) (n+1) fB) (n+1) (gJ fr nw n++[zd (za ⟨W6.heap.size,0,zc⟩) nw nw])/\w7.grownBy w8 fv.ownBlock/\W6.drew.grownBy w7 zc/\aH w7 nw W6.heap.size cK/\w8.heap[bt]?=za (ze #[zj .i64 nw,zd (za ⟨g5,0,zc⟩) (n+1) gF,fv] 268 (0,0))/\w7.ownsRow B 193 1 fv n (gJ fr nw n)):
  fK B w n nw bt mk f fr F (w8.setCell ⟨bt,2,zc⟩ (zd (za ⟨g8,0,zc⟩) (n+1) fB)) (n+1) ga gl false (bY (.set g) n) (zd (za ⟨g5,0,zc⟩) (n+1) gF) (zd (za ⟨g8,0,zc⟩) (n+1) fB) (λp=>if p=n then mg else mk p) (λp=>if p=n then g else f p) (λp=>if p=n then W6.heap.size else fr p) (λp=>if p=n then cK else F p) (kP cK n) (kP cK n)/\Kp B w4 (w8.setCell ⟨bt,2,zc⟩ (zd (za ⟨g8,0,zc⟩) (n+1) fB)):=by
 obtain⟨h4,hk6,CQ,pG,Ct,nT⟩:=H1;obtain⟨b6,m4,Am,AP⟩:=H2;obtain⟨Tu,N5,Cr,yW,b8,DU⟩:=H8;have jN:bt<w.heap.size:=(ap.1 h.box).1;have cX:=h.bb;have pP:=pG.size;have s46:w4.heap.size<=W6.heap.size:=aU Ct.size nT.size;have xi:=jf w8 bt 2 (zd (za ⟨g8,0,zc⟩) (n+1) fB);have b9:=dF w8 bt 2 _ _ (zd (za ⟨g8,0,zc⟩) (n+1) fB) b8;generalize w8.setCell ⟨bt,2,zc⟩ (zd (za ⟨g8,0,zc⟩) (n+1) fB)=W9 at *;have ht:aE (λk=>k=bt\/sv.ownBlock=za k\/fv.ownBlock=za k) w4 W9:=
  ((((((aE.refl _ w4).grown Ct (λk e=>.inl (.inr (.inl e)))).grown nT (λk e=>.inl (.inl (by cases e;rfl)))).drew).grown Cr (λk e=>by cases e)).grown N5 (λk e=>.inl (.inr (.inr e)))).grown xi (λk e=>.inl (.inl (by cases e;rfl)))
 have Ei:Kp B w4 W9:=Kp.zy5 ht (by omega) (λk hk e=>by
  rcases e with e|e|e
  ·subst e;exact⟨cX,_,_,h4.box,.inl rfl⟩
  ·obtain⟨q1,aA,q2⟩:=AP k e;exact⟨q1,_,_,q2,.inr (.inl rfl)⟩
  ·obtain⟨q1,aA,q2⟩:=ki h4.fo e;exact⟨q1,_,_,q2,.inr (.inr rfl)⟩)
 have k79:∀(k:Nat) (cs:Array zf) (t:zk),w7.heap[k]?=za (ze cs t (0,0))->t≠193->t≠268->W9.heap[k]?=za (ze cs t (0,0)):=λk cs t e h1 h2=>by
  have e8:=(N5.block k (ap.1 e).1 (λe2=>by obtain⟨-,aA,e3⟩:=ki DU e2.symm;rw[e]at e3;exact h1 (bP e3))).trans e;exact(xi.block k (ap.1 e8).1 (λe2=>by cases e2;rw[b8]at e8;exact h2 (bP e8).symm)).trans e8
 have mQ:∀p,p<n->fr p<w.heap.size:=λp hp=>(h.fol.rows p hp).cj
 have OE:=Am.fi.cj;have OG:=Am.la.cj;have hif:∀{α:Type} (x:α) (y:Nat->α) (p:Nat),p<n->(if p=n then x else y p)=y p:=λx y p hp=>aq (by omega)
 refine⟨⟨⟨b9,?_,?_,⟨λp hp=>?_,λp q hp hq e=>?_⟩,λp hp=>?_,by omega,h.gY,h4.dR.keep (Ei.low 0 h.b0),h.bb,h.b0⟩,Ei.ZA Am,by omega,na,nl,λp hp=>?_,λp hp=>?_,λp hp=>⟨aq (by omega),aq (by omega),aq (by omega),aq (by omega)⟩,λp h1 h2=>?_,?_,(Kp.cH (by omega) pG).trans Ei,by omega⟩,Ei⟩
 ·rw[zpN,aD rfl,znP (mk':=mk) (λp hp=>aq (by omega))];exact lg CQ (λk cs e=>k79 k cs _ ((Cr.block k (ap.1 e).1 (by simp)).trans e) (by decide) (by decide))
 ·rw[zp8,aD rfl,znU (fr':=fr) (λp hp=>aq (by omega))];exact lg Tu (λk cs e=>(xi.block k (ap.1 e).1 (λe2=>by cases e2;rw[b8]at e;exact absurd (bP e) (by decide))).trans e)
 ·by_cases e:p=n
  ·rw[aD e,aD e];exact⟨k79 _ _ _ yW.row (by decide) (by decide),yW.lt⟩
  ·rw[aq e,aq e];exact Ei.pos (h4.fol.rows p (by omega))
 ·by_cases e1:p=n<;>by_cases e2:q=n
  ·omega
  ·rw[aD e1,aq e2]at e;have:=mQ q (by omega);omega
  ·rw[aq e1,aD e2]at e;have:=mQ p (by omega);omega
  ·rw[aq e1,aq e2]at e;exact h.fol.inj p q (by omega) (by omega) e
 ·by_cases e:p=n
  ·rw[aD e,aD e];exact Ei.eV _ _ _ m4 (by decide) (by decide) (by decide)
  ·rw[aq e,aq e];exact Ei.eV _ _ _ (h4.pS p (by omega)) (by decide) (by decide) (by decide)
 ·by_cases e:p=n
  ·rw[aD e];omega
  ·rw[aq e];have:=mQ p (by omega);omega
 ·by_cases e:p=n
  ·rw[aD e];omega
  ·rw[aq e];have:=mQ p (by omega);omega
 ·rw[aD (by omega)];omega
 ·have mR:∀p,(p=n)↔pd (kP cK n) p:=λp=>by unfold pd;rw[Il,Ba];simp
  refine(zoW (tk:=HH (λp=>if p=n then g else f p)) (fol:=xT (λp=>if p=n then cK else F p)) (f:=g) (n:=n) (λc=>?_) (λq=>?_)).dom (λp=>by omega) (by simp) mR mR
  ·show (if n=n then g else f n) c.toNat=true↔_;rw[aD rfl]
  ·show ¬ax (if n=n then cK else F n) q=true;rw[aD rfl,Ba];simp
theorem zlu(B n nw bt mg:Nat)(sv fv:zf)(mk:Nat->Nat)(f:Nat->Nat->Bool)(fr:Nat->Nat)(F:Nat->Nat->Nat)(g:Nat->Bool)(w:zg)(h:jp B w n nw bt sv fv mk f fr F)(hm:w.heap[mg]?=za (ze (dv g) 293 (0,0)))(hn:n<64*nw):
  zn prog 186 #[zi (za ⟨bt,0,zc⟩),zi (za ⟨mg,0,zc⟩)] w λe W=>zT B w n nw bt mk f fr F 1 (bY (.set g) n) e W:=by
 obtain⟨i0,hi,bK,bh,bz⟩:=info_parts Tryz.zy0;obtain⟨i1,hj,qB,kW,n9⟩:=info_parts Tryz.K0;have bV:=h.gY;have jN:bt<w.heap.size:=(ap.1 h.box).1;obtain⟨ao,ca,rfl⟩:=C6 h.so;have ae:zh w.heap.size w (w.alloc (ze #[.bool false,zd zc 0 0,zd zc 0 0] 226)):=au;have x0:(w.alloc (ze #[.bool false,zd zc 0 0,zd zc 0 0] 226)).heap[w.heap.size]?=za (ze #[.bool false,zd zc 0 0,zd zc 0 0] 226 (0,0)):=aL _ _;have bB:=Wx nw bt false (.slice ao n ca) fv _ ((ae.block bt jN).trans h.box) bV
 go_enter func186,ntmps186
 go_wp2_with fail
 refine bB.mono ?_;rintro e w1 ⟨ga,gl,rfl,na,nl,eT,ak⟩;rw[World.size_alloc]at na nl;have x1:=(ak.block _ (by simp)).trans x0;have rz:zh w.heap.size w w1:=ae.trans (ak.mono (by simp));obtain⟨W2,dH⟩:∃W2,W2=(w1.alloc (ze #[.bool false,zd (za ⟨ga,0,zc⟩) nw nw,zd (za ⟨gl,0,zc⟩) nw nw] 226)):=⟨_,rfl⟩;have x5:W2.heap[w1.heap.size]?=za (ze #[.bool false,zd (za ⟨ga,0,zc⟩) nw nw,zd (za ⟨gl,0,zc⟩) nw nw] 226 (0,0)):=by rw[dH];exact aL _ _
 have af:zh w1.heap.size w1 W2:=by rw[dH];exact au
 have y2:=eT.below af;have x4:W2.heap[w.heap.size]?=_:=(af.block _ (ap.1 x1).1).trans x1;have OE:=eT.fi.cj;have OG:=eT.la.cj;have hne:=eT.ne;have uy:W2.heap[bt]?=_:=(af.block bt (bA jN rz.size)).trans ((rz.block bt jN).trans h.box);have lW:=Fj nw ga nw cK n W2.drew y2.fi.row hn bV (λ_=>by simp[cK]);have c1:W2.cell? ⟨w1.heap.size,1,zc⟩=za (zd (za ⟨ga,0,zc⟩) nw nw):=(bW x5).2.1;have c2:W2.cell? ⟨bt,1,zc⟩=za (.slice ao n ca):=(bW uy).2.1;have zwj:w1.heap.size<W2.heap.size:=(ap.1 x5).1;have zyO:=rz.size;go_wp2;rw[<-dH];clear dH
 go_region_held3 (λw'=>w'.cell? ⟨w1.heap.size,1,zc⟩=za (zd (za ⟨ga,0,zc⟩) nw nw)/\w'.cell? ⟨bt,1,zc⟩=za (.slice ao n ca)) ((first|exact⟨c1,c2⟩|exact⟨(bW z5).2.1,(bW zb).2.1⟩|go_keep)) ((go_at_call 146;refine lW.mono ?_;rintro e w3 ⟨rfl,mV,lB⟩;have z5:=(lB.block (w1.heap.size) (by show _<W2.heap.size;omega) (by simp;omega)).trans x5;have zb:=(lB.block bt (by show _<W2.heap.size;omega) (by simp;omega)).trans uy))
 have z4:w3.heap[w.heap.size]?=_:=(lB.block (w.heap.size) (by show _<W2.heap.size;omega) (by simp;omega)).trans x4;have zl:aH w3 nw gl cK:=⟨(lB.block gl (by show _<W2.heap.size;omega) (by simp;omega)).trans y2.la.row,y2.la.lt⟩;have zAs:W2.heap.size<=w3.heap.size:=lB.size;have zvr:=Fj nw gl nw cK n w3.drew zl.row hn bV (λ_=>by simp[cK]);have d1:w3.cell? ⟨w1.heap.size,2,zc⟩=za (zd (za ⟨gl,0,zc⟩) nw nw):=(bW z5).2.2.1;have d2:w3.cell? ⟨bt,1,zc⟩=za (.slice ao n ca):=(bW zb).2.1;clear c1 c2 lW bB x0;go_wp2
 go_region_held3 (λw'=>w'.cell? ⟨w1.heap.size,2,zc⟩=za (zd (za ⟨gl,0,zc⟩) nw nw)/\w'.cell? ⟨bt,1,zc⟩=za (.slice ao n ca)) ((first|exact⟨d1,d2⟩|exact⟨(bW y5).2.2.1,(bW yb).2.1⟩|go_keep)) ((go_at_call 146;refine zvr.mono ?_;rintro e w4 ⟨rfl,nZ,pL⟩;have y5:=(pL.block (w1.heap.size) (by show _<w3.heap.size;omega) (by simp;omega)).trans z5;have yb:=(pL.block bt (by show _<w3.heap.size;omega) (by simp;omega)).trans zb))
 have y4:w4.heap[w.heap.size]?=_:=(pL.block (w.heap.size) (by show _<w3.heap.size;omega) (by simp;omega)).trans z4;have zwl:w3.heap.size<=w4.heap.size:=pL.size;have hra:w4.heap[ga]?=_:=(pL.block ga (by show _<w3.heap.size;omega) (by simp;omega)).trans mV;have lU:∀i,kP cK n i<18446744073709551616:=IA cK (λ_=>by simp[cK]) n;have Am:mI w4 nw ga gl (kP cK n) (kP cK n):=⟨⟨hra,lU⟩,⟨nZ,lU⟩,hne⟩;have pG:zh w.heap.size w w4:=((rz.trans (af.mono zyO)).drew.grown lB (by show _<=W2.heap.size;omega) (λk e=>by cases e;omega)).drew.grown pL (by show _<=w3.heap.size;omega) (λk e=>by cases e;omega);have h4:=h.below pG;have m4:=(pG.block mg (ap.1 hm).1).trans hm;clear d1 d2 zvr lB pL z4 zl z5 zb x4 x5 x1 uy mV nZ hra y2 ak af rz ae eT;have k1:=(bW yb).2.1;have AP:∀k,(Value.slice ao n ca).ownBlock=za k->B<=k/\∃aA,w4.heap[k]?=za (ze aA 295 (0,0)):=λk hk=>ki h4.so hk
 have SY:∀(w5:zg),w4.grownBy w5 (Value.slice ao n ca).ownBlock->∀(k:Nat) (cs:Array zf) (t:zk),w4.heap[k]?=za (ze cs t (0,0))->t≠295->w5.heap[k]?=za (ze cs t (0,0)):=λw5 hg k cs t e hne=>(hg.block k (ap.1 e).1 (λe2=>by
  obtain⟨-,aA,e3⟩:=AP k e2.symm;rw[e]at e3;exact hne (bP e3))).trans e
 go_wp2_with (refine zfT w4 _ rfl rfl (.tmp 28) (.tmp 30) 266 rfl B 295 i0 (zi zc) 8 underlying266 hi bK bh bz rfl (.slice ao n ca) n (xH mk n) (zi (za ⟨mg,0,zc⟩)) rfl h4.so rfl rfl (by omega) (by omega) (by have:=h.bb;omega) ?_;intro g5 gF w5 jv Ct zx0;have v5:=SY w5 Ct _ _ _ yb (by decide);obtain⟨-,q1,-,-,fq1,-⟩:=bW v5)
 clear q1 fq1 k1;have v6:=dF w5 bt 1 _ _ (zd (za ⟨g5,0,zc⟩) (n+1) gF) v5;have nT:=jf w5 bt 1 (zd (za ⟨g5,0,zc⟩) (n+1) gF);generalize Ch:w5.setCell ⟨bt,1,zc⟩ (zd (za ⟨g5,0,zc⟩) (n+1) gF)=W6 at *;clear Ch;have b6:W6.heap[bt]?=za (ze #[zj .i64 nw,zd (za ⟨g5,0,zc⟩) (n+1) gF,fv] 268 (0,0)):=v6;have SZ:∀(k:Nat) (cs:Array zf) (t:zk),w4.heap[k]?=za (ze cs t (0,0))->t≠295->t≠268->W6.heap[k]?=za (ze cs t (0,0)):=λk cs t e h1 h2=>by
  have e5:=SY w5 Ct k cs t e h1;exact(nT.block k (ap.1 e5).1 (λe2=>by cases e2;rw[v5]at e5;exact h2 (bP e5).symm)).trans e5
 have CQ:W6.ownsRow B 295 1 (zd (za ⟨g5,0,zc⟩) (n+1) gF) (n+1) (xH mk n++[zi (za ⟨mg,0,zc⟩)]):=lg jv (λk cs e=>(nT.block k (ap.1 e).1 (λe2=>by cases e2;rw[v5]at e;exact absurd (bP e) (by decide))).trans e);have RD:W6.ownsRow B 193 1 fv n (gJ fr nw n):=lg h4.fo (λk cs e=>SZ k cs _ e (by decide) (by decide));obtain⟨fo,cf,rfl⟩:=C6 RD;have s46:w4.heap.size<=W6.heap.size:=aU Ct.size nT.size;have hno:=Fl nw bt (zd (za ⟨g5,0,zc⟩) (n+1) gF) (.slice fo n cf) W6.drew b6 bV;have bk6:=(bW b6).2.2.1;have uv:=h.bb;have Nw:B<=W6.drew.heap.size:=by show B<=W6.heap.size;omega
 have El:n<=64000:=by omega
 have Et:∀(w7:zg),(aH w7 nw W6.heap.size cK/\W6.drew.grownBy w7 zc)->∃g8 fB w8,w7.cell? ⟨bt,2,zc⟩=za (.slice fo n cf)/\(w7.alloc (ze #[zd (za ⟨W6.heap.size,0,zc⟩) nw nw] 193)).cell? ⟨bt,2,zc⟩=za (.slice fo n cf)/\(BQ #[227,227] 227 #[.slice fo n cf,zd (za ⟨w7.heap.size,0,zc⟩) 1 1]).run prog (w7.alloc (ze #[zd (za ⟨W6.heap.size,0,zc⟩) nw nw] 193))=.ok (zd (za ⟨g8,0,zc⟩) (n+1) fB) w8/\w8.cell? ⟨bt,2,zc⟩=za (.slice fo n cf)/\w8.frozen? ⟨bt,2,zc⟩=false/\
   zm (w8.ownsRow B 193 1 (zd (za ⟨g8,0,zc⟩) (n+1) fB) (n+1) (gJ fr nw n++[zd (za ⟨W6.heap.size,0,zc⟩) nw nw])/\w7.grownBy w8 (Value.slice fo n cf).ownBlock/\W6.drew.grownBy w7 zc/\aH w7 nw W6.heap.size cK/\w8.heap[bt]?=za (ze #[zj .i64 nw,zd (za ⟨g5,0,zc⟩) (n+1) gF,.slice fo n cf] 268 (0,0))/\w7.ownsRow B 193 1 (.slice fo n cf) n (gJ fr nw n)):=λw7 ⟨yW,Cr⟩=>by
  have b7:=(Cr.block bt (ap.1 b6).1 (by simp)).trans b6;have DU:=lg RD (λk cs e=>(Cr.block k (ap.1 e).1 (by simp)).trans e);obtain⟨g8,fB,w8,kR,Tu,N5,b8⟩:=zmX B n nw bt W6.heap.size (.slice fo n cf) _ fr w7 DU b7 (aU Nw Cr.size) El;exact⟨g8,fB,w8,(bW b7).2.2.1,(bW (cQ b7)).2.2.1,kR,(bW b8).2.2.1,(bW b8).2.2.2.2.2,Tu,N5,Cr,yW,b8,DU⟩
 have db:zm (jp B w4 n nw bt (.slice ao n ca) (.slice fo n cf) mk f fr F/\(∀(k:Nat) (cs:Array zf) (t:zk),w4.heap[k]?=za (ze cs t (0,0))->t≠295->t≠268->W6.heap[k]?=za (ze cs t (0,0)))/\W6.ownsRow B 295 1 (zd (za ⟨g5,0,zc⟩) (n+1) gF) (n+1) (xH mk n++[zi (za ⟨mg,0,zc⟩)])/\zh w.heap.size w w4/\w4.grownBy w5 (Value.slice ao n ca).ownBlock/\w5.grownBy W6 (za bt)):=⟨h4,SZ,CQ,pG,Ct,nT⟩;have zv3:zm (W6.heap[bt]?=za (ze #[zj .i64 nw,zd (za ⟨g5,0,zc⟩) (n+1) gF,.slice fo n cf] 268 (0,0))/\w4.heap[mg]?=za (ze (dv g) 293 (0,0))/\mI w4 nw ga gl (kP cK n) (kP cK n)/\(∀k,(Value.slice ao n ca).ownBlock=za k->B<=k/\∃aA,w4.heap[k]?=za (ze aA 295 (0,0)))):=⟨b6,m4,Am,AP⟩;have SI:zm (w4.heap[w.heap.size]?=za (ze #[.bool false,zd zc 0 0,zd zc 0 0] 226 (0,0))/\w4.heap[w1.heap.size]?=za (ze #[.bool false,zd (za ⟨ga,0,zc⟩) nw nw,zd (za ⟨gl,0,zc⟩) nw nw] 226 (0,0))):=⟨y4,y5⟩;clear h4 SZ CQ pG Ct nT b6 m4 Am AP y4 y5 SY v6 v5 yb RD jv zx0 hi bK bh bz hj qB kW n9 lU
 go_region_law ((first|(refine Dd (by rfl) 164 #[.tmp 39] #[224] (by rfl) #[zi (za ⟨bt,0,zc⟩)] (by simp[Act.eval,Act.put]) (zd (za ⟨W6.heap.size,0,zc⟩) nw nw) (λw'=>aH w' nw W6.heap.size cK/\W6.drew.grownBy w' zc) (zjB _ _) hno ?_;intro w7 yW;obtain⟨g8,fB,w8,bk7,zxt,kR,bk8,fk8,H8⟩:=Et w7 yW;clear yW)|(refine V8 (by rfl) (.tmp 38) (.tmp 41) 227 (by rfl) _ _ (by rfl) (by rfl) _ _ kR ?_)))
 all_goals
  obtain⟨D9,K9⟩:=zrE h hn (by omega) (by omega) db.out zv3.out H8.out;have u4:=K9.eV _ _ _ SI.out.1 (by decide) (by decide) (by decide);have u5:=K9.eV _ _ _ SI.out.2 (by decide) (by decide) (by decide);generalize w8.setCell ⟨bt,2,zc⟩ (zd (za ⟨g8,0,zc⟩) (n+1) fB)=W9 at *;obtain⟨a0,a1,a2,-,-,-⟩:=bW u5;obtain⟨k0,k1,k2,f0,f1,f2⟩:=bW u4;have gX:=qa h.dR;clear db zv3 SI H8 K9 h hm kR bk7 zxt bk8 fk8 Et hno bk6;go_wp2;refine bD (v:=.agg #[.bool false,zd (za ⟨ga,0,zc⟩) nw nw,zd (za ⟨gl,0,zc⟩) nw nw]) (by simp[results,results186,go_sem,k0,k1,k2]) rfl (D9.ret u4 (ai _) gX (ai _))
end
section
variable {w w':zg}{O:Nat -> Prop}{r nw bt ga gl gm gv m:Nat}{lv sS sP:zf}{L gx:Nat -> Nat}{Ts:Nat -> Nat -> Nat}{es:List (Int×Int)}
attribute [local go_sem ↓] wp_at_zero wp_at_succ
def jk(nw:Nat)(Ts:Nat->Nat->Nat)(m:Nat):List ByteArray:=(List.range m).map λi=>lI nw (Ts i)
theorem Ii(nw:Nat)(Ts:Nat->Nat->Nat)(m:Nat):(jk nw Ts m).length=m:=by simp[jk]
def CR(nw:Nat)(Ts:Nat->Nat->Nat)(L:Nat->Nat)(m:Nat):List zf:=(List.range m).map λi=>Value.bool (kI nw (Ts i) L)
structure eZ(O:Nat->Prop)(w:zg)(r nw bt ga gl:Nat)(lv:zf)(L:Nat->Nat)(gm gv:Nat)(sS sP:zf)(gx:Nat->Nat)(Ts:Nat->Nat->Nat)(m:Nat)(es:List (Int×Int)):Prop where
 box:w.heap[r]?=za (ze #[zi (za ⟨bt,0,zc⟩),lv,zd (za ⟨ga,0,zc⟩) nw nw,zd (za ⟨gl,0,zc⟩) nw nw,.map (za gm),sS,sP,.map (za gv)] 234 (0,0))
 nm:w.heap[gm]?=za (.map (mA Value.string (jk nw Ts m)) m)
 mv:w.heap[gv]?=za (.map (qE es) es.length)
 so:w.ownsRow 0 193 1 sS m (gJ gx nw m)
 po:w.ownsRow 0 4 1 sP m (CR nw Ts L m)
 set:∀i,i<m->aH w nw (gx i) (Ts i)
 Ag:gm≠gv
 or:O r
 om:O gm
 ov:O gv
 os:∀k,sS.ownBlock=za k->O k
 op:∀k,sP.ownBlock=za k->O k
 ox:∀i,i<m->O (gx i)
 nd:∀i j,i<m->j<m->(∀x,x<nw->Ts i x=Ts j x)->i=j
theorem oe{g:Nat}{a0 a1 a2 a3 a4 a5 a6 a7:zf}{t:zk}(h:w.heap[g]?=za (ze #[a0,a1,a2,a3,a4,a5,a6,a7] t (0,0))):w.cell? ⟨g,0,zc⟩=za a0/\w.cell? ⟨g,1,zc⟩=za a1/\w.cell? ⟨g,2,zc⟩=za a2/\w.cell? ⟨g,3,zc⟩=za a3/\w.cell? ⟨g,4,zc⟩=za a4/\w.cell? ⟨g,5,zc⟩=za a5/\w.cell? ⟨g,6,zc⟩=za a6/\w.cell? ⟨g,7,zc⟩=za a7:=by
 have:∀o,w.cell? ⟨g,o,zc⟩=#[a0,a1,a2,a3,a4,a5,a6,a7][o]?:=λ_=>aO _ _ _ _ _ _ h
 exact⟨this 0,this 1,this 2,this 3,this 4,this 5,this 6,this 7⟩
theorem Pb{e:zk}{sz n:Nat}{v:zf}{xs:List zf}(h:w.ownsRow 0 e sz v n xs)(hk:∀k,v.ownBlock=za k->w'.heap[k]?=w.heap[k]?):w'.ownsRow 0 e sz v n xs:=kH h hk
theorem eZ.keep(h:eZ O w r nw bt ga gl lv L gm gv sS sP gx Ts m es)(hk:∀k,O k->k<w.heap.size->w'.heap[k]?=w.heap[k]?):eZ O w' r nw bt ga gl lv L gm gv sS sP gx Ts m es:=by
 have hl:∀{k:Nat} {o:Obj},w.heap[k]?=za o->k<w.heap.size:=λh=>(ap.1 h).1
 refine⟨(hk r h.or (hl h.box)).trans h.box,(hk gm h.om (hl h.nm)).trans h.nm,(hk gv h.ov (hl h.mv)).trans h.mv,Pb h.so λk e=>hk k (h.os k e) ?_,Pb h.po λk e=>hk k (h.op k e) ?_,λi hi=>⟨(hk _ (h.ox i hi) (h.set i hi).cj).trans (h.set i hi).row,(h.set i hi).lt⟩,h.Ag,h.or,h.om,h.ov,h.os,h.op,h.ox,h.nd⟩
 ·obtain⟨-,aA,e3⟩:=ki h.so e;exact hl e3
 ·obtain⟨-,aA,e3⟩:=ki h.po e;exact hl e3
theorem eZ.mono{O':Nat->Prop}(h:eZ O w r nw bt ga gl lv L gm gv sS sP gx Ts m es)(ho:∀k,O k->O' k):eZ O' w r nw bt ga gl lv L gm gv sS sP gx Ts m es:=
 ⟨h.box,h.nm,h.mv,h.so,h.po,h.set,h.Ag,ho _ h.or,ho _ h.om,ho _ h.ov,λk e=>ho _ (h.os k e),λk e=>ho _ (h.op k e),λi hi=>ho _ (h.ox i hi),h.nd⟩
theorem eZ.lt(h:eZ O w r nw bt ga gl lv L gm gv sS sP gx Ts m es):eZ (λk=>O k/\k<w.heap.size) w r nw bt ga gl lv L gm gv sS sP gx Ts m es:=by
 have hl:∀{k:Nat} {o:Obj},w.heap[k]?=za o->k<w.heap.size:=λh=>(ap.1 h).1
 refine⟨h.box,h.nm,h.mv,h.so,h.po,h.set,h.Ag,⟨h.or,hl h.box⟩,⟨h.om,hl h.nm⟩,⟨h.ov,hl h.mv⟩,λk e=>⟨h.os k e,?_⟩,λk e=>⟨h.op k e,?_⟩,λi hi=>⟨h.ox i hi,(h.set i hi).cj⟩,h.nd⟩
 ·obtain⟨-,aA,e3⟩:=ki h.so e;exact hl e3
 ·obtain⟨-,aA,e3⟩:=ki h.po e;exact hl e3
theorem zpa{T:Nat->Nat}(h1:∀i,i<m->∀x,Ts i x<18446744073709551616)(h2:∀x,T x<18446744073709551616)(h:lI nw T∈jk nw Ts m):dJ (jk nw Ts m) (lI nw T)<m/\∀x,x<nw->Ts (dJ (jk nw Ts m) (lI nw T)) x=T x:=by
 have hl:=Db.2 h;rw[Ii]at hl;refine⟨hl,?_⟩;have hg:=zq0 h;generalize dJ (jk nw Ts m) (lI nw T)=i at *;have:(jk nw Ts m)[i]?=za (lI nw (Ts i)):=by simp[jk,hl]
 rw[this]at hg;exact(zo8 (h1 i hl) h2).1 (Option.some.inj hg)
def Jn(O:Nat->Prop)(w:zg)(r nw bt ga gl:Nat)(lv:zf)(L:Nat->Nat)(gm gv:Nat)(gx:Nat->Nat)(Ts:Nat->Nat->Nat)(m:Nat)(es:List (Int×Int))(g:Nat)(T:Nat->Nat)(e:Ending)(w':zg):Prop:=
 ∃(i m':Nat) (sS sP:zf) (pF:Nat->Nat) (iT:Nat->Nat->Nat),e=.returned (zj .i64 i)/\eZ (λk=>O k\/k=g\/w.heap.size<=k) w' r nw bt ga gl lv L gm gv sS sP pF iT m' es/\i<m'/\m<=m'/\m'<=m+1/\(∀j,j<m->pF j=gx j/\iT j=Ts j)/\(∀x,x<nw->iT i x=T x)/\(∀j,m<=j->j<m'->j=i)/\aE O w w'
theorem znK(h:eZ O w r nw bt ga gl lv L gm gv sS sP gx Ts m es)(g:Nat)(T:Nat->Nat)(hT:aH w nw g T)(bV:nw<=1000)(hk:lI nw T∈jk nw Ts m):
  zn prog 169 #[zi (za ⟨r,0,zc⟩),zd (za ⟨g,0,zc⟩) nw nw] w λe w'=>Jn O w r nw bt ga gl lv L gm gv gx Ts m es g T e w':=by
 obtain⟨dh,th⟩:=zpa (λi hi=>(h.set i hi).lt) hT.lt hk;have Ki:=λ(W:zg) (hb:zh w.heap.size w W)=>zse nw g nw T W (hT.below hb) bV
 have CB:=λ(W:zg) (hb:zh w.heap.size w W)=>zh5 gm (jk nw Ts m) (lI nw T) W (by rw[Ii];exact(hb.block gm (ap.1 h.nm).1).trans h.nm)
 obtain⟨b0,b1,b2,b3,b4,b5,b6,b7⟩:=oe h.box;have lF:=(ap.1 h.box).1;have dr:zh w.heap.size w w.drew:=(Below.refl _ _).drew;have FR:∀W W',zh w.heap.size w W->W.grownBy W' (za gm)->W'.heap[gm]?=za (.map (mA Value.string (jk nw Ts m)) m)->zh w.heap.size w W':=λW W' hb hg hm=>⟨hg.os.trans hb.os,hg.tape.trans hb.tape,hg.output.trans hb.output,aU hb.size hg.size,λk hk=>by
  by_cases e:k=gm
  ·rw[e,hm,h.nm]
  ·rw[hg.block k (bA hk hb.size) (by simpa using e),hb.block k hk]⟩
 have MZ:zm (∀W,zh w.heap.size w W->∀W',W.grownBy W' (za gm)->W'.heap[gm]?=za (.map (mA Value.string (jk nw Ts m)) m)->Jn O w r nw bt ga gl lv L gm gv gx Ts m es g T (.returned (zj .i64 (dJ (jk nw Ts m) (lI nw T)))) W'):=λW hb W' hg hm=>by
  have same:∀k,k<w.heap.size->W'.heap[k]?=w.heap[k]?:=λk hk=>by
   by_cases e:k=gm
   ·rw[e,hm,h.nm]
   ·rw[hg.block k (bA hk hb.size) (by simpa using e),hb.block k hk]
  exact⟨_,m,sS,sP,gx,Ts,rfl,(h.keep λk _ hl=>same k hl).mono λk hk=>.inl hk,dh,ai _,by omega,λ_ _=>⟨rfl,rfl⟩,th,λj h1 h2=>by omega,hg.os.trans hb.os,hg.tape.trans hb.tape,hg.output.trans hb.output,aU hb.size hg.size,λk hk _=>same k hk⟩
 have lW:BO (jk nw Ts m) (lI nw T)=jk nw Ts m:=by unfold BO;rw[aD hk]
 clear h hT th
 go_enter func169,ntmps169
 go_wp2
 go_region_held3 (λw'=>zh w.heap.size w w'/\w'.cell? ⟨r,4,zc⟩=za (.map (za gm))) ((first|exact⟨dr,b4⟩|exact⟨zvx,(zvx.cell (p:=⟨r,4,zc⟩) lF).trans b4⟩|exact⟨aj dr dr.size bE,(bE.cell (p:=⟨r,4,zc⟩) (by show r<w.heap.size;exact lF)).trans b4⟩|go_keep)) ((first|(go_at_call 194;refine(Ki _ (by first|exact dr|exact(‹zh w.heap.size w _/\_›).1)).mono ?_;rintro e w5 ⟨rfl,bE⟩)|(go_at_call 193;refine(CB _ (by first|exact dr|exact(‹zh w.heap.size w _/\_›).1)).mono ?_;rintro e w6 ⟨he,yU,nT⟩;rw[lW,Ii]at yU;have zvx:=FR _ _ (aj dr dr.size bE) nT yU;simp only[hk,not_true_eq_false,decide_false]at he;subst he)))
 all_goals
  have j9:=MZ.out _ (aj dr dr.size bE) _ nT yU;have lq:zm _:=j9;clear j9 MZ FR Ki CB lW;go_wp2;exact bD (v:=zj .i64 (dJ (jk nw Ts m) (lI nw T))) (by simp[results,results169,go_sem]) rfl lq.out
end
section
variable {gm r nw bt ga gl gv m:Nat}{w w':zg}{O:Nat -> Prop}{lv sS sP:zf}{L gx:Nat -> Nat}{Ts:Nat -> Nat -> Nat}{es:List (Int×Int)}
attribute [local go_sem ↓] wp_at_zero wp_at_succ
theorem Tryz.zyU:(prog.info? 4).map (λi=>(i.zero,i.size,i.bytes))=za (za (.bool false),1,1):=by kernel_rfl
theorem zm7(xs:Array zf)(w:zg):(callFunc 195 xs).run prog w=.ok (.enter 195 xs) w:=by kernel_rfl
theorem U2{P:Program}{ops:Array Oper}{rest:List Oper}{o:Oper}{a:Act}{Q:Exit->Act->zg->Prop}(w:zg)(H:Nat)(hH:w.heap.size=H)(lY:o.guard=zc)(s x:Operand)(t:zk)
  (ho:o.op=.call {callee:=.builtin .append,args:=#[s,x],argTypes:=#[t,t]})
  (base:Nat) (e:zk) (i:TypeInfo) (z:zf) (bytes:Nat) (ht:P.underlying t=za (.slice e)) (hi:P.info? e=za i) (hz:i.zero=za z)
  (xA:i.size=1) (uz:i.bytes=bytes) (xD:z.cells.size=1)
  (v:zf) (n:Nat) (xs:List zf) (u:zf) (hs:a.eval s=v) (az:w.ownsRow base e 1 v n xs)
  (hx:a.eval x=zd (za ⟨H,0,zc⟩) 1 1) (h1:u.oneCell'=true) (hn:n<=100000000) (xg:bytes<=64) (Gv:base<=w.heap.size)
  (h:∀g' cap' w',w'.ownsRow base e 1 (zd (za ⟨g',0,zc⟩) (n+1) cap') (n+1) (xs++[u])->w.grownBy w' v.ownBlock->(v.ownBlock=za g'\/H<g')->wpList P ops Q rest (a.put o.dst (zd (za ⟨g',0,zc⟩) (n+1) cap')) w'):
  wpList P ops Q (o::rest) a (w.alloc (ze #[u] e)):=by
 subst hH;refine wpList_append_lies _ lY s x t ho base e i z 1 bytes ht hi hz xA uz xD (by omega) v n xs hs (lg az λk cs e=>cQ e) ⟨w.heap.size,0,zc⟩ 1 1 [u] hx rfl ?_ ?_ (by omega) (by unfold maxLen;omega) ?_ (by simp;omega) (w.heap.size+1) (by simp) ?_
 ·intro j v hv
  match j,hv with
  |0,hv=>simp at hv;subst hv;simp[Addr.add]
 ·intro v hv;simp at hv;subst hv;exact h1
 ·have:(n+1)*bytes<=100000001*64:=Nat.mul_le_mul (by omega) xg;omega
 ·intro g' cap' w' AM cR dg hlt;refine h g' cap' w' AM ⟨cR.os,cR.tape,cR.output,aU (by simp) cR.size,λk hk hne=>?_⟩ ?_
  ·rw[cR.block k (by simp;omega) hne,Below.heap_alloc _ _ _ hk]
  ·rcases dg with dg|dg
   ·exact .inl dg
   ·exact .inr (by omega)
theorem zqB(m:Nat)(sP:zf)(xs:List zf)(b:Bool)(w:zg)(h:w.ownsRow 0 4 1 sP m xs)(hm:m<=100000000):
  ∃g c w',(BQ #[144,144] 144 #[sP,zd (za ⟨w.heap.size,0,zc⟩) 1 1]).run prog (w.alloc (ze #[.bool b] 4))=.ok (zd (za ⟨g,0,zc⟩) (m+1) c) w'/\w'.ownsRow 0 4 1 (zd (za ⟨g,0,zc⟩) (m+1) c) (m+1) (xs++[.bool b])/\w.grownBy w' sP.ownBlock/\(sP.ownBlock=za g\/w.heap.size<=g):=by
 obtain⟨i1,hj,qB,kW,n9⟩:=info_parts Tryz.zyU;obtain⟨g8,fB,w8,kR,az,cR,dg,hlt⟩:=run_append_lies (P:=prog) (w.alloc (ze #[.bool b] 4)) 144 144 0 4 i1 _ 1 1 underlying144 hj qB kW n9 rfl (by decide) sP m xs (h.alloc _) ⟨w.heap.size,0,zc⟩ 1 1 [.bool b] rfl (λj u hj=>by
   match j,hj with
   |0,hj=>simp at hj;subst hj;simp[Addr.add]) (by intro u hu;simp at hu;subst hu;rfl) (by omega) (by unfold maxLen;omega) (by omega) (by simp) (w.heap.size+1) (by simp)
 exact⟨g8,fB,w8,kR,az,⟨cR.os,cR.tape,cR.output,aU (by simp) cR.size,λk hk hne=>by rw[cR.block k (by simp;omega) hne,Below.heap_alloc _ _ _ hk]⟩,dg.imp id λe=>by omega⟩
theorem znm(nw:Nat)(Ts:Nat->Nat->Nat)(T:Nat->Nat)(m:Nat):jk nw Ts m++[lI nw T]=jk nw (λi=>if i=m then T else Ts i) (m+1):=by
 simp only[jk,yd,Dl,vm,List.map_nil,aD]
 congr 1
 exact Bo λi hi=>by rw[aq (by have:=wI.1 hi;omega)]
theorem zrV(nw:Nat)(Ts:Nat->Nat->Nat)(L T:Nat->Nat)(m:Nat):CR nw Ts L m++[.bool (kI nw T L)]=CR nw (λi=>if i=m then T else Ts i) L (m+1):=by
 simp only[CR,yd,Dl,vm,List.map_nil,aD]
 congr 1
 exact Bo λi hi=>by rw[aq (by have:=wI.1 hi;omega)]
theorem zkl(gx:Nat->Nat)(nw g m:Nat):gJ gx nw m++[zd (za ⟨g,0,zc⟩) nw nw]=gJ (λi=>if i=m then g else gx i) nw (m+1):=by
 simp only[gJ,yd,Dl,vm,List.map_nil,aD]
 congr 1
 exact Bo λi hi=>by rw[aq (by have:=wI.1 hi;omega)]
structure KR(gm:Nat)(w w':zg):Prop where
 u:∀(k:Nat) (cs:Array zf),w.heap[k]?=za (ze cs 236 (0,0))->w'.heap[k]?=za (ze cs 236 (0,0))
 m:∀(k:Nat) (es:Array MapEntry) (c:Nat),w.heap[k]?=za (.map es c)->k≠gm->w'.heap[k]?=za (.map es c)
theorem KR.trans{a b c:zg}(h:KR gm a b)(k:KR gm b c):KR gm a c:=⟨λi cs e=>k.u i cs (h.u i cs e),λi es x e hn=>k.m i es x (h.m i es x e hn) hn⟩
theorem KR.below(h:zh w.heap.size w w'):KR gm w w':=⟨λk _ e=>(h.block k (ap.1 e).1).trans e,λk _ _ e _=>(h.block k (ap.1 e).1).trans e⟩
theorem KR.grown{g:Nat}{o:Option Nat}(h:w.grownBy w' o)(hg:o=za g->g=gm\/∃cs t,w.heap[g]?=za (ze cs t (0,0))/\t≠236)(ho:∀k,o=za k->k=g)(Kq:∀(cs:Array zf),w.heap[gm]?≠za (ze cs 236 (0,0))):KR gm w w':=by
 refine⟨λk cs e=>(h.block k (ap.1 e).1 λe2=>?_).trans e,λk es c e hn=>(h.block k (ap.1 e).1 λe2=>?_).trans e⟩
 ·have:=ho k e2.symm;subst this;rcases hg e2.symm with rfl|⟨gj,t,h1,h2⟩
  ·exact Kq cs e
  ·rw[e]at h1;exact h2 (bP h1).symm
 ·have:=ho k e2.symm;subst this;rcases hg e2.symm with h1|⟨gj,t,h1,h2⟩
  ·exact hn h1
  ·rw[e]at h1;cases h1
theorem znJ(h:eZ O w r nw bt ga gl lv L gm gv sS sP gx Ts m es)(g:Nat)(T:Nat->Nat)(hT:aH w nw g T)(hL:aH w nw gl L)(bV:nw<=1000)(hm:m<=100000000)(hk:lI nw T∉jk nw Ts m):
  zn prog 169 #[zi (za ⟨r,0,zc⟩),zd (za ⟨g,0,zc⟩) nw nw] w λe w'=>Jn O w r nw bt ga gl lv L gm gv gx Ts m es g T e w':=by
 obtain⟨i1,hj,qB,kW,n9⟩:=info_parts Tryz.K0;have Ki:=λ(W:zg) (hb:zh w.heap.size w W)=>zse nw g nw T W (hT.below hb) bV
 have CB:=λ(W:zg) (hb:zh w.heap.size w W)=>zh5 gm (jk nw Ts m) (lI nw T) W (by rw[Ii];exact(hb.block gm (ap.1 h.nm).1).trans h.nm)
 obtain⟨b0,b1,b2,b3,b4,b5,b6,b7⟩:=oe h.box;have lF:=(ap.1 h.box).1;have dr:zh w.heap.size w w.drew:=(Below.refl _ _).drew;have lW:BO (jk nw Ts m) (lI nw T)=jk nw (λi=>if i=m then T else Ts i) (m+1):=by unfold BO;rw[aq hk,znm]
 have zvL:dJ (jk nw Ts m) (lI nw T)=m:=by rw[zl9 hk,Ii]
 have H:zm (eZ O w r nw bt ga gl lv L gm gv sS sP gx Ts m es):=h;have HT:zm (aH w nw g T):=hT;have HL:zm (aH w nw gl L):=hL;have HND:zm (∀i j,i<m+1->j<m+1->(∀x,x<nw->(λi=>if i=m then T else Ts i) i x=(λi=>if i=m then T else Ts i) j x)->i=j):=λi j hi hj he=>by
  have one:∀j,j<m->¬∀x,x<nw->T x=Ts j x:=λj hj hx=>hk (by
   rw[(zo8 hT.lt (h.set j hj).lt).2 hx];exact sy.2 ⟨j,wI.2 hj,rfl⟩)
  by_cases ei:i=m
  ·by_cases ej:j=m
   ·omega
   ·simp only[aD ei,aq ej]at he;exact absurd he (one j (by omega))
  ·by_cases ej:j=m
   ·simp only[aq ei,aD ej]at he;exact absurd (λx hx=>(he x hx).symm) (one i (by omega))
   ·simp only[aq ei,aq ej]at he;exact h.nd i j (by omega) (by omega) he
 have Ol:r≠gm:=λe=>by have h1:=h.box;rw[e,h.nm]at h1;cases h1
 obtain⟨aS,cS,rfl⟩:=C6 h.so;obtain⟨aP,cP,rfl⟩:=C6 h.po;clear h hT hL
 go_enter func169,ntmps169
 go_wp2
 go_region_held3 (λw'=>w'.cell? ⟨r,4,zc⟩=za (.map (za gm))) ((first|exact b4|exact(World.cell?_of_block AQ).trans ((bE.cell (p:=⟨r,4,zc⟩) lF).trans b4)|exact(bE.cell (p:=⟨r,4,zc⟩) (by show r<w.heap.size;exact lF)).trans b4|go_keep)) ((first|(go_at_call 194;refine(Ki _ dr).mono ?_;rintro e w5 ⟨rfl,bE⟩)|(go_at_call 193;refine(CB _ (aj dr dr.size bE)).mono ?_;rintro e w6 ⟨he,yU,nT⟩;rw[lW,Ii]at yU;simp only[hk,not_false_eq_true,decide_true,zvL]at he;subst he;have AQ:w6.heap[r]?=w5.heap[r]?:=nT.block r (bA lF bE.size) (by simpa using Ol))))
 all_goals
  have NR:=aj dr dr.size bE;have h5:=H.out.keep (λk _ hl=>NR.block k hl);have Um:=h5.nm;have tA:KR gm w w6:=(KR.below NR).trans (KR.grown (g:=gm) nT (λ_=>.inl rfl) (λk e=>by simpa using e.symm) (λcs e=>by rw[Um]at e;cases e));have vC:=AQ.trans h5.box;obtain⟨z0,z1,z2,z3,z4,z5,z6,z7⟩:=oe vC;have f5:=cF _ _ 5 _ _ vC;have f6:=cF _ _ 6 _ _ vC;have CQ:w6.ownsRow 0 193 1 (.slice aS m cS) m (gJ gx nw m):=Pb h5.so λk e=>nT.block k (by obtain⟨-,aA,e3⟩:=ki h5.so e;exact(ap.1 e3).1) (λe2=>by
   have e2:k=gm:=by simpa using e2
   obtain⟨-,aA,e3⟩:=ki h5.so e;rw[e2,h5.nm]at e3;cases e3)
  have zyN:r<w6.heap.size:=(ap.1 vC).1;have Lj:∀k,(Value.slice aS m cS).ownBlock=za k->∃aA,w6.heap[k]?=za (ze aA 193 (0,0)):=λk e=>(ki CQ e).2
  have zv6:za r≠(Value.slice aS m cS).ownBlock:=λe=>by
   obtain⟨aA,e3⟩:=Lj r e.symm;rw[vC]at e3;exact absurd (bP e3) (by decide)
  have zE:zm (KR gm w w6/\aE O w w6/\w6.heap[gm]?=za (.map (mA Value.string (jk nw (λi=>if i=m then T else Ts i) (m+1))) (m+1))/\w6.ownsRow 0 4 1 (.slice aP m cP) m (CR nw Ts L m)):=by
   refine⟨tA,(aE.cH NR).grown nT (λk e=>.inl (by cases e;exact H.out.om)),yU,Pb h5.po λk e=>nT.block k ?_ λe2=>?_⟩
   ·obtain⟨-,aA,e3⟩:=ki h5.po e;exact(ap.1 e3).1
   ·have e2:k=gm:=by simpa using e2
    obtain⟨-,aA,e3⟩:=ki h5.po e;rw[e2,Um]at e3;cases e3
  clear tA h5 yU Um bE NR nT AQ Ki CB lW zvL dr b0 b1 b2 b3 b4 b5 b6 b7
  go_wp2_with (refine U2 w6 _ rfl rfl (.tmp 22) (.tmp 24) 227 rfl 0 193 i1 (zd zc 0 0) 24 underlying227 hj qB kW n9 rfl (.slice aS m cS) m (gJ gx nw m) (zd (za ⟨g,0,zc⟩) nw nw) rfl CQ rfl rfl (by omega) (by omega) (by omega) ?_;intro g7 bS w7 fu dW iH;have qm:=(dW.block r zyN zv6).trans vC;obtain⟨-,-,-,q3,-,q5,q6,-⟩:=oe qm;have fq5:=cF _ _ 5 _ _ qm;have fq6:=cF _ _ 6 _ _ qm)
  obtain⟨W8,Ar⟩:∃W8,w7.setCell ⟨r,5,zc⟩ (zd (za ⟨g7,0,zc⟩) (m+1) bS)=W8:=⟨_,rfl⟩;have Gg:W8.heap[r]?=za (ze #[zi (za ⟨bt,0,zc⟩),lv,zd (za ⟨ga,0,zc⟩) nw nw,zd (za ⟨gl,0,zc⟩) nw nw,.map (za gm),zd (za ⟨g7,0,zc⟩) (m+1) bS,.slice aP m cP,.map (za gv)] 234 (0,0)):=by rw[<-Ar];exact dF _ _ 5 _ _ _ qm
  have AO:∀k,k≠r->W8.heap[k]?=w7.heap[k]?:=λk hk=>by rw[<-Ar];exact cu _ _ _ _ (by show k≠r;exact hk)
  have g8:w7.grownBy W8 (za r):=by rw[<-Ar];exact jf _ _ _ _
  have RJ:gm≠r:=λe=>Ol e.symm
  have Un:W8.heap[gm]?=za (.map (mA Value.string (jk nw (λi=>if i=m then T else Ts i) (m+1))) (m+1)):=by
   rw[AO gm RJ,dW.block gm (ap.1 zE.out.2.2.1).1 (λe=>by obtain⟨aA,e3⟩:=Lj gm e.symm;rw[zE.out.2.2.1]at e3;cases e3)];exact zE.out.2.2.1
  have uM:KR gm w W8:=by
   refine(zE.out.1.trans (KR.grown (g:=((Value.slice aS m cS).ownBlock).getD 0) dW (λe=>.inr ?_) (λk e=>by rw[e];rfl) (λcs e=>by rw[zE.out.2.2.1]at e;cases e))).trans (KR.grown (g:=r) g8 (λ_=>.inr ⟨_,_,qm,by decide⟩) (λk e=>by simpa using e.symm) (λcs e=>?_))
   ·obtain⟨aA,e3⟩:=Lj _ e;exact⟨aA,_,e3,by decide⟩
   ·rw[<-AO gm RJ,Un]at e;cases e
  have tJ:aE O w W8:=(zE.out.2.1.grown dW (λk e=>.inl (H.out.os k e))).grown g8 (λk e=>.inl (by cases e;exact H.out.or));have kD:W8.ownsRow 0 193 1 (zd (za ⟨g7,0,zc⟩) (m+1) bS) (m+1) (gJ (λi=>if i=m then g else gx i) nw (m+1)):=by
   rw[<-zkl];exact lg fu λk cs e=>(AO k (λe2=>by rw[e2,qm]at e;exact absurd (bP e) (by decide))).trans e
  have po8:W8.ownsRow 0 4 1 (.slice aP m cP) m (CR nw Ts L m):=lg zE.out.2.2.2 λk cs e=>by
   have e7:=(dW.block k (ap.1 e).1 (λe2=>by obtain⟨aA,e3⟩:=Lj k e2.symm;rw[e]at e3;exact absurd (bP e3) (by decide))).trans e;exact(AO k (λe2=>by rw[e2,qm]at e7;exact absurd (bP e7) (by decide))).trans e7
  have zvF:O g7\/w.heap.size<=g7:=by
   rcases iH with e|e
   ·exact .inl (H.out.os g7 e)
   ·exact .inr (by have:=zE.out.2.1.size;omega)
  have pg:aH W8.drew nw g T:=⟨uM.u _ _ HT.out.row,HT.out.lt⟩;have pl:aH W8.drew nw gl L:=⟨uM.u _ _ HL.out.row,HL.out.lt⟩;have hmt:=zml nw g gl nw nw T L W8.drew pg pl bV;have r8l:r<W8.heap.size:=(ap.1 Gg).1;have Et:∀w9:zg,zh W8.drew.heap.size W8.drew w9->∃g10 BW kG,w9.cell? ⟨r,6,zc⟩=za (.slice aP m cP)/\(w9.alloc (ze #[.bool (kI nw T L)] 4)).cell? ⟨r,6,zc⟩=za (.slice aP m cP)/\(BQ #[144,144] 144 #[.slice aP m cP,zd (za ⟨w9.heap.size,0,zc⟩) 1 1]).run prog (w9.alloc (ze #[.bool (kI nw T L)] 4))=.ok (zd (za ⟨g10,0,zc⟩) (m+1) BW) kG/\kG.cell? ⟨r,6,zc⟩=za (.slice aP m cP)/\kG.frozen? ⟨r,6,zc⟩=false/\
    zm (Jn O w r nw bt ga gl lv L gm gv gx Ts m es g T (.returned (zj .i64 m)) (kG.setCell ⟨r,6,zc⟩ (zd (za ⟨g10,0,zc⟩) (m+1) BW))):=λw9 iJ=>by
   have Ax:zh W8.heap.size W8 w9:=⟨iJ.os,iJ.tape,iJ.output,iJ.size,iJ.block⟩;have Rq:=(Ax.block r r8l).trans Gg;have po9:=lg (W:=w9) po8 λk cs e=>(Ax.block k (ap.1 e).1).trans e
   obtain⟨g10,BW,kG,kR,Uu,Ai,zxj⟩:=zqB m _ _ (kI nw T L) w9 po9 (by omega);have zy6:∀k,(Value.slice aP m cP).ownBlock=za k->∃aA,w9.heap[k]?=za (ze aA 4 (0,0)):=λk e=>(ki po9 e).2
   have Mi:∀(k:Nat) (o:Obj),w9.heap[k]?=za o->(∀cs,o≠ze cs 4 (0,0))->kG.heap[k]?=za o:=λk o e hn=>(Ai.block k (ap.1 e).1 (λe2=>by
    obtain⟨aA,e3⟩:=zy6 k e2.symm;rw[e]at e3;exact hn aA (Option.some.inj e3))).trans e
   have Aa:=Mi r _ Rq (λcs e=>by injection e with _ e;exact absurd e (by decide));refine⟨g10,BW,kG,(oe Rq).2.2.2.2.2.2.1,(oe (cQ Rq)).2.2.2.2.2.2.1,kR,(oe Aa).2.2.2.2.2.2.1,cF _ _ 6 _ _ Aa,?_⟩;obtain⟨mK,NI⟩:∃mK,kG.setCell ⟨r,6,zc⟩ (zd (za ⟨g10,0,zc⟩) (m+1) BW)=mK:=⟨_,rfl⟩;have zxD:mK.heap[r]?=za (ze #[zi (za ⟨bt,0,zc⟩),lv,zd (za ⟨ga,0,zc⟩) nw nw,zd (za ⟨gl,0,zc⟩) nw nw,.map (za gm),zd (za ⟨g7,0,zc⟩) (m+1) bS,zd (za ⟨g10,0,zc⟩) (m+1) BW,.map (za gv)] 234 (0,0)):=by rw[<-NI];exact dF _ _ 6 _ _ _ Aa
   have zwe:∀k,k≠r->mK.heap[k]?=kG.heap[k]?:=λk hk=>by rw[<-NI];exact cu _ _ _ _ (by show k≠r;exact hk)
   have g11:kG.grownBy mK (za r):=by rw[<-NI];exact jf _ _ _ _
   have up:∀(k:Nat) (o:Obj),W8.heap[k]?=za o->(∀cs,o≠ze cs 4 (0,0))->k≠r->mK.heap[k]?=za o:=λk o e hn hk=>(zwe k hk).trans (Mi k o ((Ax.block k (ap.1 e).1).trans e) hn)
   have Ul:∀(k:Nat) (o:Obj),W8.heap[k]?=za o->(∀cs,o≠ze cs 234 (0,0))->k≠r:=λk o e hn e2=>by
    rw[e2,Gg]at e;exact hn _ (Option.some.inj e).symm
   have zy4:=up gm _ Un (λcs e=>by cases e) RJ;have mv8:=uM.m _ _ _ H.out.mv (λe=>H.out.Ag e.symm);have zy3:=up gv _ mv8 (λcs e=>by cases e) (Ul gv _ mv8 (λcs e=>by cases e));have zwR:∀(x:Nat) (U:Nat->Nat),aH w nw x U->aH mK nw x U:=λx U hp=>by
    have e8:=uM.u _ _ hp.row;exact⟨up x _ e8 (λcs e=>by injection e with _ e;exact absurd e (by decide)) (Ul x _ e8 (λcs e=>by injection e with _ e;exact absurd e (by decide))),hp.lt⟩
   have zzu:=lg (W:=mK) kD λk cs e=>up k _ e (λcs e=>by injection e with _ e;exact absurd e (by decide)) (Ul k _ e (λcs e=>by injection e with _ e;exact absurd e (by decide)))
   have zy7:mK.ownsRow 0 4 1 (zd (za ⟨g10,0,zc⟩) (m+1) BW) (m+1) (CR nw (λi=>if i=m then T else Ts i) L (m+1)):=by
    rw[<-zrV];exact lg Uu λk cs e=>(zwe k (λe2=>by rw[e2,Aa]at e;exact absurd (bP e) (by decide))).trans e
   have zzw:aE O w mK:=by
    have t9:aE O w w9:=⟨Ax.os.trans tJ.os,Ax.tape.trans tJ.tape,Ax.output.trans tJ.output,aU tJ.size Ax.size,λk hk hn=>(Ax.block k (bA hk tJ.size)).trans (tJ.same k hk hn)⟩;exact(t9.grown Ai (λk e=>.inl (H.out.op k e))).grown g11 (λk e=>.inl (by cases e;exact H.out.or))
   have zyg:O g10\/w.heap.size<=g10:=by
    rcases zxj with e|e
    ·exact .inl (H.out.op g10 e)
    ·exact .inr (by have:=tJ.size;have:=Ax.size;omega)
   rw[NI];refine⟨m,m+1,_,_,(λi=>if i=m then g else gx i),(λi=>if i=m then T else Ts i),rfl,⟨zxD,zy4,zy3,zzu,zy7,λi hi=>?_,H.out.Ag,.inl H.out.or,.inl H.out.om,.inl H.out.ov,λk e=>?_,λk e=>?_,λi hi=>?_,HND.out⟩,by omega,by omega,ai _,λj hj=>⟨aq (by omega),aq (by omega)⟩,λx _=>by simp,λj h1 h2=>by omega,zzw⟩
   ·by_cases e:i=m
    ·simp only[aD e];exact zwR _ _ HT.out
    ·simp only[aq e];exact zwR _ _ (H.out.set i (by omega))
   ·have e:g7=k:=by simpa [Value.ownBlock]using e
    subst e;exact zvF.imp id λh=>.inr h
   ·have e:g10=k:=by simpa [Value.ownBlock]using e
    subst e;exact zyg.imp id λh=>.inr h
   ·by_cases e:i=m
    ·simp only[aD e];exact .inr (.inl (by first|trivial|rfl))
    ·simp only[aq e];exact .inl (H.out.ox i (by omega))
  have d3:W8.cell? ⟨r,3,zc⟩=za (zd (za ⟨gl,0,zc⟩) nw nw):=(oe Gg).2.2.2.1;have d6:W8.cell? ⟨r,6,zc⟩=za (.slice aP m cP):=(oe Gg).2.2.2.2.2.2.1;clear Gg AO g8 Un uM tJ kD po8 zvF pg pl zE H HT HL fu dW iH qm vC Lj CQ zv6 z0 z1 z2 z3 z4 z5 z6 z7 f5 f6 q3 q5 q6 fq5 fq6;rw[Ar];clear Ar;go_wp2
  go_region_law ((first|(refine Dd (by rfl) 195 #[.tmp 33,.tmp 37] #[193,193] (by rfl) #[zd (za ⟨g,0,zc⟩) nw nw,zd (za ⟨gl,0,zc⟩) nw nw] (by simp[Act.eval]) (.bool (kI nw T L)) (λw'=>zh W8.drew.heap.size W8.drew w') (zm7 _ _) hmt ?_;intro w9 CE;obtain⟨g10,BW,kG,e9,e9',kR,RA,f10,H10⟩:=Et w9 CE;clear CE)|(refine V8 (by rfl) (.tmp 32) (.tmp 39) 144 (by rfl) _ _ (by rfl) (by rfl) _ _ kR ?_)))
  all_goals
   clear Et hmt kR e9 e9' RA f10;go_wp2;exact bD (v:=zj .i64 m) (by simp[results,results169,go_sem]) rfl H10.out
theorem zd4(h:eZ O w r nw bt ga gl lv L gm gv sS sP gx Ts m es)(g:Nat)(T:Nat->Nat)(hT:aH w nw g T)(hL:aH w nw gl L)(bV:nw<=1000)(hm:m<=100000000):
  zn prog 169 #[zi (za ⟨r,0,zc⟩),zd (za ⟨g,0,zc⟩) nw nw] w λe w'=>Jn O w r nw bt ga gl lv L gm gv gx Ts m es g T e w':=by
 by_cases hk:lI nw T∈jk nw Ts m
 ·exact znK h g T hT bV hk
 ·exact znJ h g T hT hL bV hm hk
end
variable {w:zg}{n nw bt ga gl m:Nat}{lv:zf}{Lk Ts:Nat -> Nat -> Nat}{A L:Nat -> Nat}{f:Nat -> Nat -> Bool}{es:List (Int×Int)}
attribute [local go_sem] Oper.semAt_some
structure pE(B:Nat)(w:zg)(n nw bt ga gl:Nat)(lv sv fv:zf)(lr mk:Nat->Nat)(Lk:Nat->Nat->Nat)(A L:Nat->Nat)(f:Nat->Nat->Bool):Prop where
 box:vf w bt nw sv fv
 Ab:bt<B
 CU:0<n->∃gs cs:Nat,sv=zd (za ⟨gs,0,zc⟩) n cs/\gs<B/\∀p,p<n->w.cell? ⟨gs,p,zc⟩=za (zi (za ⟨mk p,0,zc⟩))
 pS:∀p,p<n->w.heap[mk p]?=za (ze (dv (f p)) 293 (0,0))/\mk p<B
 Ld:0<n->∃gf cf:Nat,lv=zd (za ⟨gf,0,zc⟩) n cf/\gf<B/\∀p,p<n->w.cell? ⟨gf,p,zc⟩=za (zd (za ⟨lr p,0,zc⟩) nw nw)
 wa:∀p,p<n->aH w nw (lr p) (Lk p)/\lr p<B
 pa:aH w nw ga A/\ga<B
 pl:aH w nw gl L/\gl<B
 dR:fG w
 pos:0<B
 le:B<=w.heap.size
 kC:n<=64*nw
 gY:nw<=1000
 lb:∀p q,p<n->q<64*nw->ax (Lk p) q=true->q<n
 ab:∀q,q<64*nw->ax A q=true->q<n
theorem pE.keep{B:Nat}{w':zg}{sv fv:zf}{lr mk:Nat->Nat}(h:pE B w n nw bt ga gl lv sv fv lr mk Lk A L f)(hk:∀k,k<B->w'.heap[k]?=w.heap[k]?)(hs:B<=w'.heap.size):pE B w' n nw bt ga gl lv sv fv lr mk Lk A L f:=by
 have hc:∀k o,k<B->w'.cell? ⟨k,o,zc⟩=w.cell? ⟨k,o,zc⟩:=λk o hl=>World.cell?_of_block (hk k hl)
 have hp:∀{g:Nat} {T:Nat->Nat},aH w nw g T->g<B->aH w' nw g T:=λh hl=>⟨(hk _ hl).trans h.row,h.lt⟩
 refine⟨(hk bt h.Ab).trans h.box,h.Ab,λhn=>?_,λp hn=>⟨(hk _ (h.pS p hn).2).trans (h.pS p hn).1,(h.pS p hn).2⟩,λhn=>?_,λp hn=>⟨hp (h.wa p hn).1 (h.wa p hn).2,(h.wa p hn).2⟩,⟨hp h.pa.1 h.pa.2,h.pa.2⟩,⟨hp h.pl.1 h.pl.2,h.pl.2⟩,h.dR.keep (hk 0 h.pos),h.pos,hs,h.kC,h.gY,h.lb,h.ab⟩
 ·obtain⟨gs,cs,e,hl,k⟩:=h.CU hn;exact⟨gs,cs,e,hl,λp hp=>(hc _ _ hl).trans (k p hp)⟩
 ·obtain⟨gs,cs,e,hl,k⟩:=h.Ld hn;exact⟨gs,cs,e,hl,λp hp=>(hc _ _ hl).trans (k p hp)⟩
def xU(nw:Nat)(f:Nat->Nat->Bool)(Lk:Nat->Nat->Nat)(A:Nat->Nat)(T:Nat->Nat)(c:Nat)(b:Bool)(U:Nat->Nat):Prop:=
 ∀q,q<64*nw->(ax U q=true↔f q c=true/\((∃p,p<64*nw/\ax T p=true/\ax (Lk p) q=true)\/(b=true/\ax A q=true)))
def iE(i c:Nat)(b:Bool):Int:=2*(256*(i:Int)+(c:Int))+(if b then 1 else 0)
theorem zot{i c i' c':Nat}{b b':Bool}(h:iE i c b=iE i' c' b')(hc:c<256)(hc':c'<256):i=i'/\c=c'/\b=b':=by
 unfold iE at h;cases b<;>cases b'<;>simp at h ⊢<;>omega
def uc(nw:Nat)(f:Nat->Nat->Bool)(Lk:Nat->Nat->Nat)(A:Nat->Nat)(Ts:Nat->Nat->Nat)(m:Nat)(es:List (Int×Int)):Prop:=
 ∀k∈ep es,∃(i c:Nat) (b:Bool) (v:Nat),k=iE i c b/\i<m/\c<256/\v<m/\qF es k=v/\xU nw f Lk A (Ts i) c b (Ts v)
theorem zhX(es:List (Int×Int))(k v:Int):ep (es++[(k,v)])=ep es++[k]:=by simp[ep]
theorem zj4{k k' v:Int}(h:k∈ep es):qF (es++[(k',v)]) k=qF es k:=by
 have hl:=(PS es k).2 h;have e:dJ (ep (es++[(k',v)])) k=dJ (ep es) k:=by
  rw[zhX];unfold dJ at hl ⊢;rw[List.findIdx_append,aD (by simpa [ep]using hl)]
 unfold qF;rw[e,cL,cL,Dl,qR (by rw[tU];exact hl)]
theorem uc.more{iT:Nat->Nat->Nat}{m':Nat}(h:uc nw f Lk A Ts m es)(hm:m<=m')(hT:∀j,j<m->iT j=Ts j):uc nw f Lk A iT m' es:=λk hk=>by
 obtain⟨i,c,b,v,h1,h2,h3,h4,h5,h6⟩:=h k hk;exact⟨i,c,b,v,h1,by omega,h3,by omega,h5,by rw[hT i h2,hT v h4];exact h6⟩
theorem uc.put(h:uc nw f Lk A Ts m es){i c v:Nat}{b:Bool}(hi:i<m)(hc:c<256)(hv:v<m)(hn:iE i c b∉ep es)(hs:xU nw f Lk A (Ts i) c b (Ts v)):uc nw f Lk A Ts m (es++[(iE i c b,(v:Int))]):=λk hk=>by
 rw[zhX]at hk
 by_cases S5:k∈ep es
 ·obtain⟨i',c',b',v',h1,h2,h3,h4,h5,h6⟩:=h k S5;exact⟨i',c',b',v',h1,h2,h3,h4,by rw[zj4 S5];exact h5,h6⟩
 ·have e:k=iE i c b:=by
   rcases er.1 hk with h1|h1
   ·exact absurd h1 S5
   ·exact eM.1 h1
  subst e;exact⟨i,c,b,v,rfl,hi,hc,hv,zj3 hn,hs⟩
def Fw(n nw:Nat)(Ts:Nat->Nat->Nat)(m:Nat):Prop:=∀i q,i<m->q<64*nw->ax (Ts i) q=true->q<n
def II(O:Nat->Prop)(w:zg)(n r nw bt ga gl:Nat)(lv:zf)(f:Nat->Nat->Bool)(Lk:Nat->Nat->Nat)(A L:Nat->Nat)(gm gv:Nat)(gx:Nat->Nat)(Ts:Nat->Nat->Nat)(m i c:Nat)(b:Bool)(e:Ending)(w':zg):Prop:=
 ∃(t m':Nat) (sS sP:zf) (pF:Nat->Nat) (iT:Nat->Nat->Nat) (es':List (Int×Int)),e=.returned (zj .i64 t)/\eZ (λk=>O k\/(w.heap.size<=k/\k<w'.heap.size)) w' r nw bt ga gl lv L gm gv sS sP pF iT m' es'/\t<m'/\m<=m'/\m'<=m+1/\(∀j,j<m->pF j=gx j/\iT j=Ts j)/\xU nw f Lk A (Ts i) c b (iT t)/\uc nw f Lk A iT m' es'/\Fw n nw iT m'/\aE O w w'
theorem Tryz.zwV(w:zg):(zeroValue 3).run prog w=.ok (zj .i64 0) w:=by
 simp[zeroValue,typeInfo]
 kernel_rfl
theorem zrI{O:Nat->Prop}{r:Nat}{gm gv:Nat}{sS sP:zf}{gx:Nat->Nat}(h:eZ O w r nw bt ga gl lv L gm gv sS sP gx Ts m es)(hM:uc nw f Lk A Ts m es)(hS:Fw n nw Ts m)(i c:Nat)(b:Bool)(hc:c<256)(hi:i<m)(hm:m<=100000000)(hk:iE i c b∈ep es):
  zn prog 147 #[zi (za ⟨r,0,zc⟩),zj .i64 i,.int .u8 c,.bool b] w λe w'=>II O w n r nw bt ga gl lv f Lk A L gm gv gx Ts m i c b e w':=by
 obtain⟨i',c',b',v,hcd,-,hc',hv,hg,hst⟩:=hM _ hk;obtain⟨rfl,rfl,rfl⟩:=zot hcd hc hc';obtain⟨W1,cC⟩:∃W1,w.alloc (ze #[zi (za ⟨r,0,zc⟩)] 191)=W1:=⟨_,rfl⟩;have ak:zh w.heap.size w W1:=by rw[<-cC];exact au
 have c0:W1.cell? ⟨w.heap.size,0,zc⟩=za (zi (za ⟨r,0,zc⟩)):=by rw[<-cC];exact(aO _ _ _ _ _ _ (aL _ _):_=_)
 have h1:=h.keep (w':=W1) λk _ hl=>ak.block k hl
 have b7:=(oe h1.box).2.2.2.2.2.2.2;have hl:=zpq W1 underlying232 underlying3 (Tryz.zwV W1) gv es (iE i c b) h1.mv;rw[hg]at hl;have rK:decide (iE i c b∈ep es)=true:=by simp[hk]
 rw[rK]at hl;have MZ:zm (II O w n r nw bt ga gl lv f Lk A L gm gv gx Ts m i c b (.returned (zj .i64 v)) W1):=⟨v,m,sS,sP,gx,Ts,es,rfl,h1.mono λk hk=>.inl hk,hv,ai _,by omega,λ_ _=>⟨rfl,rfl⟩,hst,hM,hS,aE.cH ak⟩;have hcv:IntKind.i64.wrap (c:Int)=(c:Int):=by rw[IntKind.wrap_i64];omega
 have GQ:iE i c b=2*(256*(i:Int)+(c:Int))+(if b=true then 1 else 0):=rfl;rw[GQ]at hl;clear GQ h h1 hM hS hst hg rK;cases b
 all_goals
  simp only[if_true,if_false,Bool.false_eq_true,Int.add_zero]at hl
  go_enter func147,ntmps147
  go_wp2;exact bD (v:=zj .i64 v) (by simp[results,results147,go_sem]) rfl MZ.out
end Go.Proofs.YtdimhpfiieepiaaGreatDoor
