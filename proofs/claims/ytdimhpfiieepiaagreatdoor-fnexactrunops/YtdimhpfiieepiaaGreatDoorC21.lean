import Derived.Test.YtdimhpfiieepiaaGreatDoorC20
import Derived.Deep.RegionHeld3
namespace Go.Proofs.YtdimhpfiieepiaaGreatDoor
open Proofs.Tryz
open Option renaming some->zc,none->zd
open Value renaming slice->ze,pointer->zj,int->zk
open Obj renaming cells->zf
open Go renaming Value->zg,World->zh,TypeId->zm,Calls->zo
open RowKit renaming Below->zi,Hid->zn
set_option maxHeartbeats 4000000
set_option maxRecDepth 100000
open Go.RowKit
section
attribute [local go_sem ↓] wp_at_zero wp_at_succ
section
variable {w:zh}{B n:Nat}{v:zg}{xs:List zg}
theorem DA{e:zm}(h:w.ownsRow B e 1 v n xs):∃a c,v=.slice a n c:=by
 rcases h.2 with ⟨rfl,rfl⟩|⟨g,cap,_,rfl,_⟩
 ·exact⟨zd,0,rfl⟩
 ·exact⟨_,_,rfl⟩
theorem ke{k:Nat}{e:zm}(h:w.ownsRow B e 1 v n xs)(hk:v.ownBlock=zc k):B<=k/\∃ax,w.heap[k]?=zc (zf ax e (0,0)):=by
 rcases h.2 with ⟨rfl,_⟩|⟨g,cap,ax,rfl,hg,hh,_⟩
 ·simp[Value.ownBlock]at hk
 ·simp[Value.ownBlock]at hk;subst hk;exact⟨hg,ax,hh⟩
theorem Tryz.zAr:(prog.info? 295).map (λi=>(i.zero,i.size,i.bytes))=zc (zc (zj zd),1,8):=by kernel_rfl
theorem Tryz.Mw:(prog.info? 193).map (λi=>(i.zero,i.size,i.bytes))=zc (zc (ze zd 0 0),1,24):=by kernel_rfl
def CA(ats:Array zm)(ty:zm)(args:Array zg):Sem zg:=Builtin.append_ ats ty args
theorem Xz{P:Program}{ops:Array Oper}{o:Oper}{a:Act}{K:Act->zh->Prop}{Q:Exit->Act->zh->Prop}{E:Prop}(lZ:o.guard=zd)(s x:Operand)(t:zm)(hop:o.op=Op.call {callee:=Callee.builtin Builtin.append,args:=#[s,x],argTypes:=#[t,t]})(u y:zg)(hu:a.eval s=u)(hy:a.eval x=y)(v:zg)(w':zh)
  (hrun:(CA #[t,t] o.type #[u,y]).run P w=.ok v w') (hK:K (a.put o.dst v) w'):if Region.wanted o (yielded ops a.tmps)=true then Oper.wp P o a w K Q else E:=by
 have hw:Region.wanted o (yielded ops a.tmps)=true:=by simp[Region.wanted,lZ]
 rw[aC hw];unfold CA at hrun;unfold Oper.wp;simp[execOp,hop,resolve,invoke,builtin,hu,hy,hrun,Result.andThen];exact hK
theorem zjA(xs:Array zg)(w:zh):(callFunc 164 xs).run prog w=.ok (.enter 164 xs) w:=by kernel_rfl
theorem zia{e:zm}(h:w.ownsRow B e 1 v (n+1) xs):∃g c,v=ze (zc ⟨g,0,zd⟩) (n+1) c:=by
 rcases h.2 with ⟨_,h0⟩|⟨g,cap,_,rfl,_⟩
 ·omega
 ·exact⟨_,_,rfl⟩
theorem zm2(B n nw bt gn:Nat)(fv r:zg)(fr:Nat->Nat)(w7:zh)(rP:w7.ownsRow B 193 1 fv n (gO fr nw n))(uH:w7.heap[bt]?=zc (zf #[zk .i64 nw,r,fv] 268 (0,0)))(hB:B<=w7.heap.size)(hn:n<=64000):
  ∃g8 im w8,(CA #[227,227] 227 #[fv,ze (zc ⟨w7.heap.size,0,zd⟩) 1 1]).run prog (w7.alloc (zf #[ze (zc ⟨gn,0,zd⟩) nw nw] 193))=.ok (ze (zc ⟨g8,0,zd⟩) (n+1) im) w8/\w8.ownsRow B 193 1 (ze (zc ⟨g8,0,zd⟩) (n+1) im) (n+1) (gO fr nw n++[ze (zc ⟨gn,0,zd⟩) nw nw])/\
   w7.grownBy w8 fv.ownBlock/\w8.heap[bt]?=zc (zf #[zk .i64 nw,r,fv] 268 (0,0)):=by
 obtain⟨i1,hj,qO,kY,od⟩:=info_parts Tryz.Mw;obtain⟨v',w8,kV,aB,cJ,-⟩:=run_append_own (P:=prog) (w7.alloc (zf #[ze (zc ⟨gn,0,zd⟩) nw nw] 193)) B 227 227 193 i1 _ 1 24 underlying227 hj qO kY od rfl (by decide) fv n (gO fr nw n) (rP.alloc _) ⟨w7.heap.size,0,zd⟩ 1 1 [ze (zc ⟨gn,0,zd⟩) nw nw] rfl (λj u hj=>by
   match j,hj with
   |0,hj=>simp at hj;subst hj;simp[Addr.add]) (by intro u hu;simp at hu;subst hu;rfl) (by unfold maxLen;omega) (by omega) (by simp;omega)
 obtain⟨g8,im,rfl⟩:=zia aB;have zwN:w7.grownBy w8 fv.ownBlock:=⟨cJ.os,cJ.tape,cJ.output,aW (by simp) cJ.size,λk hk hne=>by rw[cJ.block k (by simp;omega) hne,Below.heap_alloc _ _ _ hk]⟩;refine⟨g8,im,w8,kV,aB,zwN,(zwN.block bt (ah.1 uH).1 (λe=>?_)).trans uH⟩;obtain⟨-,ax,e3⟩:=ke rP e.symm;rw[uH]at e3;exact absurd (bL e3) (by decide)
theorem ap.drew{S:Nat->Prop}{W:zh}(h:ap S w W):ap S w W.drew:=⟨h.os,h.tape,h.output,h.size,h.same⟩
theorem zrV{nw bt mg ga gl g5 gF g8 im:Nat}{sv fv:zg}{mk:Nat->Nat}{f:Nat->Nat->Bool}{fr:Nat->Nat}{F:Nat->Nat->Nat}{g:Nat->Bool}{w4 w5 W6 w7 w8:zh}(h:ji B w n nw bt sv fv mk f fr F)(hn:n<64*nw)(na:w.heap.size<=ga)(nl:w.heap.size<=gl)
  (H1:ji B w4 n nw bt sv fv mk f fr F/\(∀(k:Nat) (cs:Array zg) (t:zm),w4.heap[k]?=zc (zf cs t (0,0))->t≠295->t≠268->W6.heap[k]?=zc (zf cs t (0,0)))/\W6.ownsRow B 295 1 (ze (zc ⟨g5,0,zd⟩) (n+1) gF) (n+1) (xT mk n++[zj (zc ⟨mg,0,zd⟩)])/\zi w.heap.size w w4/\w4.grownBy w5 sv.ownBlock/\w5.grownBy W6 (zc bt))
  (H2:W6.heap[bt]?=zc (zf #[zk .i64 nw,ze (zc ⟨g5,0,zd⟩) (n+1) gF,fv] 268 (0,0))/\w4.heap[mg]?=zc (zf (dz g) 293 (0,0))/\mH w4 nw ga gl (kS cQ n) (kS cQ n)/\(∀k,sv.ownBlock=zc k->B<=k/\∃ax,w4.heap[k]?=zc (zf ax 295 (0,0))))
  (H8:w8.ownsRow B 193 1 (ze (zc ⟨g8,0,zd⟩) (n+1) im) (n+1) (gO fr nw n++[ze (zc ⟨W6.heap.size,0,zd⟩) nw nw])/\w7.grownBy w8 fv.ownBlock/\W6.drew.grownBy w7 zd/\aH w7 nw W6.heap.size cQ/\w8.heap[bt]?=zc (zf #[zk .i64 nw,ze (zc ⟨g5,0,zd⟩) (n+1) gF,fv] 268 (0,0))/\w7.ownsRow B 193 1 fv n (gO fr nw n)):
  fM B w n nw bt mk f fr F (w8.setCell ⟨bt,2,zd⟩ (ze (zc ⟨g8,0,zd⟩) (n+1) im)) (n+1) ga gl false (cj (.set g) n) (ze (zc ⟨g5,0,zd⟩) (n+1) gF) (ze (zc ⟨g8,0,zd⟩) (n+1) im) (λp=>if p=n then mg else mk p) (λp=>if p=n then g else f p) (λp=>if p=n then W6.heap.size else fr p) (λp=>if p=n then cQ else F p) (kS cQ n) (kS cQ n)/\Kp B w4 (w8.setCell ⟨bt,2,zd⟩ (ze (zc ⟨g8,0,zd⟩) (n+1) im)):=by
 obtain⟨h4,hk6,Du,uD,Da,pd⟩:=H1;obtain⟨b6,m4,A6,Bs⟩:=H2;obtain⟨U7,Pz,E4,zC,b8,EG⟩:=H8;have eV:bt<w.heap.size:=(ah.1 h.box).1;have cN:=h.bb;have qc:=uD.size;have s46:w4.heap.size<=W6.heap.size:=aW Da.size pd.size;have Bi:=iZ w8 bt 2 (ze (zc ⟨g8,0,zd⟩) (n+1) im);have b9:=dE w8 bt 2 _ _ (ze (zc ⟨g8,0,zd⟩) (n+1) im) b8;generalize w8.setCell ⟨bt,2,zd⟩ (ze (zc ⟨g8,0,zd⟩) (n+1) im)=W9 at *;have ht:ap (λk=>k=bt\/sv.ownBlock=zc k\/fv.ownBlock=zc k) w4 W9:=
  ((((((ap.refl _ w4).grown Da (λk e=>.inl (.inr (.inl e)))).grown pd (λk e=>.inl (.inl (by cases e;rfl)))).drew).grown E4 (λk e=>by cases e)).grown Pz (λk e=>.inl (.inr (.inr e)))).grown Bi (λk e=>.inl (.inl (by cases e;rfl)))
 have E8:Kp B w4 W9:=Kp.zAw ht (by omega) (λk hk e=>by
  rcases e with e|e|e
  ·subst e;exact⟨cN,_,_,h4.box,.inl rfl⟩
  ·obtain⟨q1,ax,q2⟩:=Bs k e;exact⟨q1,_,_,q2,.inr (.inl rfl)⟩
  ·obtain⟨q1,ax,q2⟩:=ke h4.fo e;exact⟨q1,_,_,q2,.inr (.inr rfl)⟩)
 have k79:∀(k:Nat) (cs:Array zg) (t:zm),w7.heap[k]?=zc (zf cs t (0,0))->t≠193->t≠268->W9.heap[k]?=zc (zf cs t (0,0)):=λk cs t e h1 h2=>by
  have e8:=(Pz.block k (ah.1 e).1 (λe2=>by obtain⟨-,ax,e3⟩:=ke EG e2.symm;rw[e]at e3;exact h1 (bL e3))).trans e;exact(Bi.block k (ah.1 e8).1 (λe2=>by cases e2;rw[b8]at e8;exact h2 (bL e8).symm)).trans e8
 have mO:∀p,p<n->fr p<w.heap.size:=λp hp=>(h.fol.rows p hp).cB
 have P7:=A6.fi.cB;have P8:=A6.la.cB;have hif:∀{α:Type} (x:α) (y:Nat->α) (p:Nat),p<n->(if p=n then x else y p)=y p:=λx y p hp=>ak (by omega)
 refine⟨⟨⟨b9,?_,?_,⟨λp hp=>?_,λp q hp hq e=>?_⟩,λp hp=>?_,by omega,h.ic,h4.dv.keep (E8.low 0 h.b0),h.bb,h.b0⟩,E8.zwi A6,by omega,na,nl,λp hp=>?_,λp hp=>?_,λp hp=>⟨ak (by omega),ak (by omega),ak (by omega),ak (by omega)⟩,λp h1 h2=>?_,?_,(Kp.bR (by omega) uD).trans E8,by omega⟩,E8⟩
 ·rw[zpW,aC rfl,znY (mk':=mk) (λp hp=>ak (by omega))];exact li Du (λk cs e=>k79 k cs _ ((E4.block k (ah.1 e).1 (by simp)).trans e) (by decide) (by decide))
 ·rw[zqh,aC rfl,zn3 (fr':=fr) (λp hp=>ak (by omega))];exact li U7 (λk cs e=>(Bi.block k (ah.1 e).1 (λe2=>by cases e2;rw[b8]at e;exact absurd (bL e) (by decide))).trans e)
 ·by_cases e:p=n
  ·rw[aC e,aC e];exact⟨k79 _ _ _ zC.row (by decide) (by decide),zC.lt⟩
  ·rw[ak e,ak e];exact E8.pos (h4.fol.rows p (by omega))
 ·by_cases e1:p=n<;>by_cases e2:q=n
  ·omega
  ·rw[aC e1,ak e2]at e;have:=mO q (by omega);omega
  ·rw[ak e1,aC e2]at e;have:=mO p (by omega);omega
  ·rw[ak e1,ak e2]at e;exact h.fol.inj p q (by omega) (by omega) e
 ·by_cases e:p=n
  ·rw[aC e,aC e];exact E8.dO _ _ _ m4 (by decide) (by decide) (by decide)
  ·rw[ak e,ak e];exact E8.dO _ _ _ (h4.qf p (by omega)) (by decide) (by decide) (by decide)
 ·by_cases e:p=n
  ·rw[aC e];omega
  ·rw[ak e];have:=mO p (by omega);omega
 ·by_cases e:p=n
  ·rw[aC e];omega
  ·rw[ak e];have:=mO p (by omega);omega
 ·rw[aC (by omega)];omega
 ·have jX:∀p,(p=n)↔px (kS cQ n) p:=λp=>by unfold px;rw[Jv,BL];simp
  refine(zo4 (tk:=Jf (λp=>if p=n then g else f p)) (fol:=yw (λp=>if p=n then cQ else F p)) (f:=g) (n:=n) (λc=>?_) (λq=>?_)).dom (λp=>by omega) (by simp) jX jX
  ·show (if n=n then g else f n) c.toNat=true↔_;rw[aC rfl]
  ·show ¬au (if n=n then cQ else F n) q=true;rw[aC rfl,BL];simp
theorem zly(B n nw bt mg:Nat)(sv fv:zg)(mk:Nat->Nat)(f:Nat->Nat->Bool)(fr:Nat->Nat)(F:Nat->Nat->Nat)(g:Nat->Bool)(w:zh)(h:ji B w n nw bt sv fv mk f fr F)(hm:w.heap[mg]?=zc (zf (dz g) 293 (0,0)))(hn:n<64*nw):
  zo prog 186 #[zj (zc ⟨bt,0,zd⟩),zj (zc ⟨mg,0,zd⟩)] w λe W=>AD B w n nw bt mk f fr F 1 (cj (.set g) n) e W:=by
 obtain⟨i0,hi,bI,aO,aQ⟩:=info_parts Tryz.zAr;obtain⟨i1,hj,qO,kY,od⟩:=info_parts Tryz.Mw;have bY:=h.ic;have eV:bt<w.heap.size:=(ah.1 h.box).1;obtain⟨ao,ca,rfl⟩:=DA h.so;have af:zi w.heap.size w (w.alloc (zf #[.bool false,ze zd 0 0,ze zd 0 0] 226)):=aw;have x0:(w.alloc (zf #[.bool false,ze zd 0 0,ze zd 0 0] 226)).heap[w.heap.size]?=zc (zf #[.bool false,ze zd 0 0,ze zd 0 0] 226 (0,0)):=aI _ _;have bQ:=Ym nw bt false (.slice ao n ca) fv _ ((af.block bt eV).trans h.box) bY
 go_enter func186,ntmps186
 go_wp2_with fail
 refine bQ.mono ?_;rintro e w1 ⟨ga,gl,rfl,na,nl,fC,ag⟩;rw[World.size_alloc]at na nl;have x1:=(ag.block _ (by simp)).trans x0;have rJ:zi w.heap.size w w1:=af.trans (ag.mono (by simp));obtain⟨W2,dk⟩:∃W2,W2=(w1.alloc (zf #[.bool false,ze (zc ⟨ga,0,zd⟩) nw nw,ze (zc ⟨gl,0,zd⟩) nw nw] 226)):=⟨_,rfl⟩;have x5:W2.heap[w1.heap.size]?=zc (zf #[.bool false,ze (zc ⟨ga,0,zd⟩) nw nw,ze (zc ⟨gl,0,zd⟩) nw nw] 226 (0,0)):=by rw[dk];exact aI _ _
 have ae:zi w1.heap.size w1 W2:=by rw[dk];exact aw
 have y2:=fC.below ae;have x4:W2.heap[w.heap.size]?=_:=(ae.block _ (ah.1 x1).1).trans x1;have P7:=fC.fi.cB;have P8:=fC.la.cB;have hne:=fC.ne;have uH:W2.heap[bt]?=_:=(ae.block bt (bA eV rJ.size)).trans ((rJ.block bt eV).trans h.box);have lX:=Gi nw ga nw cQ n W2.drew y2.fi.row hn bY (λ_=>by simp[cQ]);have c1:W2.cell? ⟨w1.heap.size,1,zd⟩=zc (ze (zc ⟨ga,0,zd⟩) nw nw):=(ci x5).2.1;have c2:W2.cell? ⟨bt,1,zd⟩=zc (.slice ao n ca):=(ci uH).2.1;have PP:w1.heap.size<W2.heap.size:=(ah.1 x5).1;have zAd:=rJ.size;go_wp2;rw[<-dk];clear dk
 go_region_held3 (λw'=>w'.cell? ⟨w1.heap.size,1,zd⟩=zc (ze (zc ⟨ga,0,zd⟩) nw nw)/\w'.cell? ⟨bt,1,zd⟩=zc (.slice ao n ca)) ((first|exact⟨c1,c2⟩|exact⟨(ci z5).2.1,(ci zb).2.1⟩|go_keep)) ((go_at_call 146;refine lX.mono ?_;rintro e w3 ⟨rfl,mU,lF⟩;have z5:=(lF.block (w1.heap.size) (by show _<W2.heap.size;omega) (by simp;omega)).trans x5;have zb:=(lF.block bt (by show _<W2.heap.size;omega) (by simp;omega)).trans uH))
 have z4:w3.heap[w.heap.size]?=_:=(lF.block (w.heap.size) (by show _<W2.heap.size;omega) (by simp;omega)).trans x4;have zl:aH w3 nw gl cQ:=⟨(lF.block gl (by show _<W2.heap.size;omega) (by simp;omega)).trans y2.la.row,y2.la.lt⟩;have zBG:W2.heap.size<=w3.heap.size:=lF.size;have zwr:=Gi nw gl nw cQ n w3.drew zl.row hn bY (λ_=>by simp[cQ]);have d1:w3.cell? ⟨w1.heap.size,2,zd⟩=zc (ze (zc ⟨gl,0,zd⟩) nw nw):=(ci z5).2.2.1;have d2:w3.cell? ⟨bt,1,zd⟩=zc (.slice ao n ca):=(ci zb).2.1;clear c1 c2 lX bQ x0;go_wp2
 go_region_held3 (λw'=>w'.cell? ⟨w1.heap.size,2,zd⟩=zc (ze (zc ⟨gl,0,zd⟩) nw nw)/\w'.cell? ⟨bt,1,zd⟩=zc (.slice ao n ca)) ((first|exact⟨d1,d2⟩|exact⟨(ci y5).2.2.1,(ci yb).2.1⟩|go_keep)) ((go_at_call 146;refine zwr.mono ?_;rintro e w4 ⟨rfl,n9,pb⟩;have y5:=(pb.block (w1.heap.size) (by show _<w3.heap.size;omega) (by simp;omega)).trans z5;have yb:=(pb.block bt (by show _<w3.heap.size;omega) (by simp;omega)).trans zb))
 have y4:w4.heap[w.heap.size]?=_:=(pb.block (w.heap.size) (by show _<w3.heap.size;omega) (by simp;omega)).trans z4;have zxu:w3.heap.size<=w4.heap.size:=pb.size;have hra:w4.heap[ga]?=_:=(pb.block ga (by show _<w3.heap.size;omega) (by simp;omega)).trans mU;have lU:∀i,kS cQ n i<18446744073709551616:=JH cQ (λ_=>by simp[cQ]) n;have A6:mH w4 nw ga gl (kS cQ n) (kS cQ n):=⟨⟨hra,lU⟩,⟨n9,lU⟩,hne⟩;have uD:zi w.heap.size w w4:=((rJ.trans (ae.mono zAd)).drew.grown lF (by show _<=W2.heap.size;omega) (λk e=>by cases e;omega)).drew.grown pb (by show _<=w3.heap.size;omega) (λk e=>by cases e;omega);have h4:=h.below uD;have m4:=(uD.block mg (ah.1 hm).1).trans hm;clear d1 d2 zwr lF pb z4 zl z5 zb x4 x5 x1 uH mU n9 hra y2 ag ae rJ af fC;have k1:=(ci yb).2.1;have Bs:∀k,(Value.slice ao n ca).ownBlock=zc k->B<=k/\∃ax,w4.heap[k]?=zc (zf ax 295 (0,0)):=λk hk=>ke h4.so hk
 have UG:∀(w5:zh),w4.grownBy w5 (Value.slice ao n ca).ownBlock->∀(k:Nat) (cs:Array zg) (t:zm),w4.heap[k]?=zc (zf cs t (0,0))->t≠295->w5.heap[k]?=zc (zf cs t (0,0)):=λw5 hg k cs t e hne=>(hg.block k (ah.1 e).1 (λe2=>by
  obtain⟨-,ax,e3⟩:=Bs k e2.symm;rw[e]at e3;exact hne (bL e3))).trans e
 go_wp2_with (refine zfK w4 _ rfl rfl (.tmp 28) (.tmp 30) 266 rfl B 295 i0 (zj zd) 8 underlying266 hi bI aO aQ rfl (.slice ao n ca) n (xT mk n) (zj (zc ⟨mg,0,zd⟩)) rfl h4.so rfl rfl (by omega) (by omega) (by have:=h.bb;omega) ?_;intro g5 gF w5 qb Da zzp;have v5:=UG w5 Da _ _ _ yb (by decide);obtain⟨-,q1,-,-,fq1,-⟩:=ci v5)
 clear q1 fq1 k1;have v6:=dE w5 bt 1 _ _ (ze (zc ⟨g5,0,zd⟩) (n+1) gF) v5;have pd:=iZ w5 bt 1 (ze (zc ⟨g5,0,zd⟩) (n+1) gF);generalize lE:w5.setCell ⟨bt,1,zd⟩ (ze (zc ⟨g5,0,zd⟩) (n+1) gF)=W6 at *;clear lE;have b6:W6.heap[bt]?=zc (zf #[zk .i64 nw,ze (zc ⟨g5,0,zd⟩) (n+1) gF,fv] 268 (0,0)):=v6;have UH:∀(k:Nat) (cs:Array zg) (t:zm),w4.heap[k]?=zc (zf cs t (0,0))->t≠295->t≠268->W6.heap[k]?=zc (zf cs t (0,0)):=λk cs t e h1 h2=>by
  have e5:=UG w5 Da k cs t e h1;exact(pd.block k (ah.1 e5).1 (λe2=>by cases e2;rw[v5]at e5;exact h2 (bL e5).symm)).trans e5
 have Du:W6.ownsRow B 295 1 (ze (zc ⟨g5,0,zd⟩) (n+1) gF) (n+1) (xT mk n++[zj (zc ⟨mg,0,zd⟩)]):=li qb (λk cs e=>(pd.block k (ah.1 e).1 (λe2=>by cases e2;rw[v5]at e;exact absurd (bL e) (by decide))).trans e);have Tt:W6.ownsRow B 193 1 fv n (gO fr nw n):=li h4.fo (λk cs e=>UH k cs _ e (by decide) (by decide));obtain⟨fo,cf,rfl⟩:=DA Tt;have s46:w4.heap.size<=W6.heap.size:=aW Da.size pd.size;have hno:=Gk nw bt (ze (zc ⟨g5,0,zd⟩) (n+1) gF) (.slice fo n cf) W6.drew b6 bY;have bk6:=(ci b6).2.2.1;have za:=h.bb;have OX:B<=W6.drew.heap.size:=by show B<=W6.heap.size;omega
 have Fb:n<=64000:=by omega
 have Fj:∀(w7:zh),(aH w7 nw W6.heap.size cQ/\W6.drew.grownBy w7 zd)->∃g8 im w8,w7.cell? ⟨bt,2,zd⟩=zc (.slice fo n cf)/\(w7.alloc (zf #[ze (zc ⟨W6.heap.size,0,zd⟩) nw nw] 193)).cell? ⟨bt,2,zd⟩=zc (.slice fo n cf)/\(CA #[227,227] 227 #[.slice fo n cf,ze (zc ⟨w7.heap.size,0,zd⟩) 1 1]).run prog (w7.alloc (zf #[ze (zc ⟨W6.heap.size,0,zd⟩) nw nw] 193))=.ok (ze (zc ⟨g8,0,zd⟩) (n+1) im) w8/\w8.cell? ⟨bt,2,zd⟩=zc (.slice fo n cf)/\w8.frozen? ⟨bt,2,zd⟩=false/\
   zn (w8.ownsRow B 193 1 (ze (zc ⟨g8,0,zd⟩) (n+1) im) (n+1) (gO fr nw n++[ze (zc ⟨W6.heap.size,0,zd⟩) nw nw])/\w7.grownBy w8 (Value.slice fo n cf).ownBlock/\W6.drew.grownBy w7 zd/\aH w7 nw W6.heap.size cQ/\w8.heap[bt]?=zc (zf #[zk .i64 nw,ze (zc ⟨g5,0,zd⟩) (n+1) gF,.slice fo n cf] 268 (0,0))/\w7.ownsRow B 193 1 (.slice fo n cf) n (gO fr nw n)):=λw7 ⟨zC,E4⟩=>by
  have b7:=(E4.block bt (ah.1 b6).1 (by simp)).trans b6;have EG:=li Tt (λk cs e=>(E4.block k (ah.1 e).1 (by simp)).trans e);obtain⟨g8,im,w8,kV,U7,Pz,b8⟩:=zm2 B n nw bt W6.heap.size (.slice fo n cf) _ fr w7 EG b7 (aW OX E4.size) Fb;exact⟨g8,im,w8,(ci b7).2.2.1,(ci (cX b7)).2.2.1,kV,(ci b8).2.2.1,(ci b8).2.2.2.2.2,U7,Pz,E4,zC,b8,EG⟩
 have io:zn (ji B w4 n nw bt (.slice ao n ca) (.slice fo n cf) mk f fr F/\(∀(k:Nat) (cs:Array zg) (t:zm),w4.heap[k]?=zc (zf cs t (0,0))->t≠295->t≠268->W6.heap[k]?=zc (zf cs t (0,0)))/\W6.ownsRow B 295 1 (ze (zc ⟨g5,0,zd⟩) (n+1) gF) (n+1) (xT mk n++[zj (zc ⟨mg,0,zd⟩)])/\zi w.heap.size w w4/\w4.grownBy w5 (Value.slice ao n ca).ownBlock/\w5.grownBy W6 (zc bt)):=⟨h4,UH,Du,uD,Da,pd⟩;have zxa:zn (W6.heap[bt]?=zc (zf #[zk .i64 nw,ze (zc ⟨g5,0,zd⟩) (n+1) gF,.slice fo n cf] 268 (0,0))/\w4.heap[mg]?=zc (zf (dz g) 293 (0,0))/\mH w4 nw ga gl (kS cQ n) (kS cQ n)/\(∀k,(Value.slice ao n ca).ownBlock=zc k->B<=k/\∃ax,w4.heap[k]?=zc (zf ax 295 (0,0)))):=⟨b6,m4,A6,Bs⟩;have Ur:zn (w4.heap[w.heap.size]?=zc (zf #[.bool false,ze zd 0 0,ze zd 0 0] 226 (0,0))/\w4.heap[w1.heap.size]?=zc (zf #[.bool false,ze (zc ⟨ga,0,zd⟩) nw nw,ze (zc ⟨gl,0,zd⟩) nw nw] 226 (0,0))):=⟨y4,y5⟩;clear h4 UH Du uD Da pd b6 m4 A6 Bs y4 y5 UG v6 v5 yb Tt qb zzp hi bI aO aQ hj qO kY od lU
 go_region_law ((first|(refine DN (by rfl) 164 #[.tmp 39] #[224] (by rfl) #[zj (zc ⟨bt,0,zd⟩)] (by simp[Act.eval,Act.put]) (ze (zc ⟨W6.heap.size,0,zd⟩) nw nw) (λw'=>aH w' nw W6.heap.size cQ/\W6.drew.grownBy w' zd) (zjA _ _) hno ?_;intro w7 zC;obtain⟨g8,im,w8,bk7,zyR,kV,bk8,fk8,H8⟩:=Fj w7 zC;clear zC)|(refine Xz (by rfl) (.tmp 38) (.tmp 41) 227 (by rfl) _ _ (by rfl) (by rfl) _ _ kV ?_)))
 all_goals
  obtain⟨D9,K9⟩:=zrV h hn (by omega) (by omega) io.out zxa.out H8.out;have u4:=K9.dO _ _ _ Ur.out.1 (by decide) (by decide) (by decide);have u5:=K9.dO _ _ _ Ur.out.2 (by decide) (by decide) (by decide);generalize w8.setCell ⟨bt,2,zd⟩ (ze (zc ⟨g8,0,zd⟩) (n+1) im)=W9 at *;obtain⟨a0,a1,a2,-,-,-⟩:=ci u5;obtain⟨k0,k1,k2,f0,f1,f2⟩:=ci u4;have gz:=ql h.dv;clear io zxa Ur H8 K9 h hm kV bk7 zyR bk8 fk8 Fj hno bk6;go_wp2;refine bh (v:=.agg #[.bool false,ze (zc ⟨ga,0,zd⟩) nw nw,ze (zc ⟨gl,0,zd⟩) nw nw]) (by simp[results,results186,go_sem,k0,k1,k2]) rfl (D9.ret u4 (aj _) gz (aj _))
end
section
variable {w w':zh}{O:Nat -> Prop}{r nw bt ga gl gm gv m:Nat}{lv sS sP:zg}{L gx:Nat -> Nat}{Ts:Nat -> Nat -> Nat}{es:List (Int×Int)}
def jf(nw:Nat)(Ts:Nat->Nat->Nat)(m:Nat):List ByteArray:=(List.range m).map λi=>lJ nw (Ts i)
theorem Jt(nw:Nat)(Ts:Nat->Nat->Nat)(m:Nat):(jf nw Ts m).length=m:=by simp[jf]
def Dv(nw:Nat)(Ts:Nat->Nat->Nat)(L:Nat->Nat)(m:Nat):List zg:=(List.range m).map λi=>Value.bool (kO nw (Ts i) L)
structure fF(O:Nat->Prop)(w:zh)(r nw bt ga gl:Nat)(lv:zg)(L:Nat->Nat)(gm gv:Nat)(sS sP:zg)(gx:Nat->Nat)(Ts:Nat->Nat->Nat)(m:Nat)(es:List (Int×Int)):Prop where
 box:w.heap[r]?=zc (zf #[zj (zc ⟨bt,0,zd⟩),lv,ze (zc ⟨ga,0,zd⟩) nw nw,ze (zc ⟨gl,0,zd⟩) nw nw,.map (zc gm),sS,sP,.map (zc gv)] 234 (0,0))
 nm:w.heap[gm]?=zc (.map (my Value.string (jf nw Ts m)) m)
 mv:w.heap[gv]?=zc (.map (qQ es) es.length)
 so:w.ownsRow 0 193 1 sS m (gO gx nw m)
 po:w.ownsRow 0 4 1 sP m (Dv nw Ts L m)
 set:∀i,i<m->aH w nw (gx i) (Ts i)
 AV:gm≠gv
 or:O r
 om:O gm
 ov:O gv
 os:∀k,sS.ownBlock=zc k->O k
 op:∀k,sP.ownBlock=zc k->O k
 ox:∀i,i<m->O (gx i)
 nd:∀i j,i<m->j<m->(∀x,x<nw->Ts i x=Ts j x)->i=j
theorem oA{g:Nat}{a0 a1 a2 a3 a4 a5 a6 a7:zg}{t:zm}(h:w.heap[g]?=zc (zf #[a0,a1,a2,a3,a4,a5,a6,a7] t (0,0))):w.cell? ⟨g,0,zd⟩=zc a0/\w.cell? ⟨g,1,zd⟩=zc a1/\w.cell? ⟨g,2,zd⟩=zc a2/\w.cell? ⟨g,3,zd⟩=zc a3/\w.cell? ⟨g,4,zd⟩=zc a4/\w.cell? ⟨g,5,zd⟩=zc a5/\w.cell? ⟨g,6,zd⟩=zc a6/\w.cell? ⟨g,7,zd⟩=zc a7:=by
 have:∀o,w.cell? ⟨g,o,zd⟩=#[a0,a1,a2,a3,a4,a5,a6,a7][o]?:=λ_=>aM _ _ _ _ _ _ h
 exact⟨this 0,this 1,this 2,this 3,this 4,this 5,this 6,this 7⟩
theorem QC{e:zm}{sz n:Nat}{v:zg}{xs:List zg}(h:w.ownsRow 0 e sz v n xs)(hk:∀k,v.ownBlock=zc k->w'.heap[k]?=w.heap[k]?):w'.ownsRow 0 e sz v n xs:=gR h hk
theorem fF.keep(h:fF O w r nw bt ga gl lv L gm gv sS sP gx Ts m es)(hk:∀k,O k->k<w.heap.size->w'.heap[k]?=w.heap[k]?):fF O w' r nw bt ga gl lv L gm gv sS sP gx Ts m es:=by
 have hl:∀{k:Nat} {o:Obj},w.heap[k]?=zc o->k<w.heap.size:=λh=>(ah.1 h).1
 refine⟨(hk r h.or (hl h.box)).trans h.box,(hk gm h.om (hl h.nm)).trans h.nm,(hk gv h.ov (hl h.mv)).trans h.mv,QC h.so λk e=>hk k (h.os k e) ?_,QC h.po λk e=>hk k (h.op k e) ?_,λi hi=>⟨(hk _ (h.ox i hi) (h.set i hi).cB).trans (h.set i hi).row,(h.set i hi).lt⟩,h.AV,h.or,h.om,h.ov,h.os,h.op,h.ox,h.nd⟩
 ·obtain⟨-,ax,e3⟩:=ke h.so e;exact hl e3
 ·obtain⟨-,ax,e3⟩:=ke h.po e;exact hl e3
theorem fF.mono{O':Nat->Prop}(h:fF O w r nw bt ga gl lv L gm gv sS sP gx Ts m es)(ho:∀k,O k->O' k):fF O' w r nw bt ga gl lv L gm gv sS sP gx Ts m es:=
 ⟨h.box,h.nm,h.mv,h.so,h.po,h.set,h.AV,ho _ h.or,ho _ h.om,ho _ h.ov,λk e=>ho _ (h.os k e),λk e=>ho _ (h.op k e),λi hi=>ho _ (h.ox i hi),h.nd⟩
theorem fF.lt(h:fF O w r nw bt ga gl lv L gm gv sS sP gx Ts m es):fF (λk=>O k/\k<w.heap.size) w r nw bt ga gl lv L gm gv sS sP gx Ts m es:=by
 have hl:∀{k:Nat} {o:Obj},w.heap[k]?=zc o->k<w.heap.size:=λh=>(ah.1 h).1
 refine⟨h.box,h.nm,h.mv,h.so,h.po,h.set,h.AV,⟨h.or,hl h.box⟩,⟨h.om,hl h.nm⟩,⟨h.ov,hl h.mv⟩,λk e=>⟨h.os k e,?_⟩,λk e=>⟨h.op k e,?_⟩,λi hi=>⟨h.ox i hi,(h.set i hi).cB⟩,h.nd⟩
 ·obtain⟨-,ax,e3⟩:=ke h.so e;exact hl e3
 ·obtain⟨-,ax,e3⟩:=ke h.po e;exact hl e3
theorem zpj{T:Nat->Nat}(h1:∀i,i<m->∀x,Ts i x<18446744073709551616)(h2:∀x,T x<18446744073709551616)(h:lJ nw T∈jf nw Ts m):dW (jf nw Ts m) (lJ nw T)<m/\∀x,x<nw->Ts (dW (jf nw Ts m) (lJ nw T)) x=T x:=by
 have hl:=DK.2 h;rw[Jt]at hl;refine⟨hl,?_⟩;have hg:=zq8 h;generalize dW (jf nw Ts m) (lJ nw T)=i at *;have:(jf nw Ts m)[i]?=zc (lJ nw (Ts i)):=by simp[jf,hl]
 rw[this]at hg;exact(zph (h1 i hl) h2).1 (Option.some.inj hg)
def Kv(O:Nat->Prop)(w:zh)(r nw bt ga gl:Nat)(lv:zg)(L:Nat->Nat)(gm gv:Nat)(gx:Nat->Nat)(Ts:Nat->Nat->Nat)(m:Nat)(es:List (Int×Int))(g:Nat)(T:Nat->Nat)(e:Ending)(w':zh):Prop:=
 ∃(i m':Nat) (sS sP:zg) (pO:Nat->Nat) (iR:Nat->Nat->Nat),e=.returned (zk .i64 i)/\fF (λk=>O k\/k=g\/w.heap.size<=k) w' r nw bt ga gl lv L gm gv sS sP pO iR m' es/\i<m'/\m<=m'/\m'<=m+1/\(∀j,j<m->pO j=gx j/\iR j=Ts j)/\(∀x,x<nw->iR i x=T x)/\(∀j,m<=j->j<m'->j=i)/\ap O w w'
theorem znT(h:fF O w r nw bt ga gl lv L gm gv sS sP gx Ts m es)(g:Nat)(T:Nat->Nat)(hT:aH w nw g T)(bY:nw<=1000)(hk:lJ nw T∈jf nw Ts m):
  zo prog 169 #[zj (zc ⟨r,0,zd⟩),ze (zc ⟨g,0,zd⟩) nw nw] w λe w'=>Kv O w r nw bt ga gl lv L gm gv gx Ts m es g T e w':=by
 obtain⟨cO,uM⟩:=zpj (λi hi=>(h.set i hi).lt) hT.lt hk;have LL:=λ(W:zh) (hb:zi w.heap.size w W)=>zsB nw g nw T W (hT.below hb) bY
 have Dg:=λ(W:zh) (hb:zi w.heap.size w W)=>zhW gm (jf nw Ts m) (lJ nw T) W (by rw[Jt];exact(hb.block gm (ah.1 h.nm).1).trans h.nm)
 obtain⟨b0,b1,b2,b3,b4,b5,b6,b7⟩:=oA h.box;have kX:=(ah.1 h.box).1;have du:zi w.heap.size w w.drew:=(Below.refl _ _).drew;have GP:∀W W',zi w.heap.size w W->W.grownBy W' (zc gm)->W'.heap[gm]?=zc (.map (my Value.string (jf nw Ts m)) m)->zi w.heap.size w W':=λW W' hb hg hm=>⟨hg.os.trans hb.os,hg.tape.trans hb.tape,hg.output.trans hb.output,aW hb.size hg.size,λk hk=>by
  by_cases e:k=gm
  ·rw[e,hm,h.nm]
  ·rw[hg.block k (bA hk hb.size) (by simpa using e),hb.block k hk]⟩
 have Ot:zn (∀W,zi w.heap.size w W->∀W',W.grownBy W' (zc gm)->W'.heap[gm]?=zc (.map (my Value.string (jf nw Ts m)) m)->Kv O w r nw bt ga gl lv L gm gv gx Ts m es g T (.returned (zk .i64 (dW (jf nw Ts m) (lJ nw T)))) W'):=λW hb W' hg hm=>by
  have same:∀k,k<w.heap.size->W'.heap[k]?=w.heap[k]?:=λk hk=>by
   by_cases e:k=gm
   ·rw[e,hm,h.nm]
   ·rw[hg.block k (bA hk hb.size) (by simpa using e),hb.block k hk]
  exact⟨_,m,sS,sP,gx,Ts,rfl,(h.keep λk _ hl=>same k hl).mono λk hk=>.inl hk,cO,aj _,by omega,λ_ _=>⟨rfl,rfl⟩,uM,λj h1 h2=>by omega,hg.os.trans hb.os,hg.tape.trans hb.tape,hg.output.trans hb.output,aW hb.size hg.size,λk hk _=>same k hk⟩
 have lX:Cy (jf nw Ts m) (lJ nw T)=jf nw Ts m:=by unfold Cy;rw[aC hk]
 clear h hT uM
 go_enter func169,ntmps169
 go_wp2
 go_region_held3 (λw'=>zi w.heap.size w w'/\w'.cell? ⟨r,4,zd⟩=zc (.map (zc gm))) ((first|exact⟨du,b4⟩|exact⟨zwy,(zwy.cell (p:=⟨r,4,zd⟩) kX).trans b4⟩|exact⟨aq du du.size bD,(bD.cell (p:=⟨r,4,zd⟩) (by show r<w.heap.size;exact kX)).trans b4⟩|go_keep)) ((first|(go_at_call 194;refine(LL _ (by first|exact du|exact(‹zi w.heap.size w _/\_›).1)).mono ?_;rintro e w5 ⟨rfl,bD⟩)|(go_at_call 193;refine(Dg _ (by first|exact du|exact(‹zi w.heap.size w _/\_›).1)).mono ?_;rintro e w6 ⟨he,zy,pd⟩;rw[lX,Jt]at zy;have zwy:=GP _ _ (aq du du.size bD) pd zy;simp only[hk,not_true_eq_false,decide_false]at he;subst he)))
 all_goals
  have jW:=Ot.out _ (aq du du.size bD) _ pd zy;have lz:zn _:=jW;clear jW Ot GP LL Dg lX;go_wp2;exact bh (v:=zk .i64 (dW (jf nw Ts m) (lJ nw T))) (by simp[results,results169,go_sem]) rfl lz.out
end
section
variable {gm r nw bt ga gl gv m:Nat}{w w':zh}{O:Nat -> Prop}{lv sS sP:zg}{L gx:Nat -> Nat}{Ts:Nat -> Nat -> Nat}{es:List (Int×Int)}
theorem Tryz.zAk:(prog.info? 4).map (λi=>(i.zero,i.size,i.bytes))=zc (zc (.bool false),1,1):=by kernel_rfl
theorem znc(xs:Array zg)(w:zh):(callFunc 195 xs).run prog w=.ok (.enter 195 xs) w:=by kernel_rfl
theorem WJ{P:Program}{ops:Array Oper}{rest:List Oper}{o:Oper}{a:Act}{Q:Exit->Act->zh->Prop}(w:zh)(H:Nat)(hH:w.heap.size=H)(lZ:o.guard=zd)(s x:Operand)(t:zm)
  (ho:o.op=.call {callee:=.builtin .append,args:=#[s,x],argTypes:=#[t,t]})
  (base:Nat) (e:zm) (i:TypeInfo) (z:zg) (bytes:Nat) (ht:P.underlying t=zc (.slice e)) (hi:P.info? e=zc i) (hz:i.zero=zc z)
  (xN:i.size=1) (uI:i.bytes=bytes) (tQ:z.cells.size=1)
  (v:zg) (n:Nat) (xs:List zg) (u:zg) (hs:a.eval s=v) (aB:w.ownsRow base e 1 v n xs)
  (hx:a.eval x=ze (zc ⟨H,0,zd⟩) 1 1) (h1:u.oneCell'=true) (hn:n<=100000000) (xD:bytes<=64) (Io:base<=w.heap.size)
  (h:∀g' cap' w',w'.ownsRow base e 1 (ze (zc ⟨g',0,zd⟩) (n+1) cap') (n+1) (xs++[u])->w.grownBy w' v.ownBlock->(v.ownBlock=zc g'\/H<g')->wpList P ops Q rest (a.put o.dst (ze (zc ⟨g',0,zd⟩) (n+1) cap')) w'):
  wpList P ops Q (o::rest) a (w.alloc (zf #[u] e)):=by
 subst hH;refine wpList_append_lies _ lZ s x t ho base e i z 1 bytes ht hi hz xN uI tQ (by omega) v n xs hs (li aB λk cs e=>cX e) ⟨w.heap.size,0,zd⟩ 1 1 [u] hx rfl ?_ ?_ (by omega) (by unfold maxLen;omega) ?_ (by simp;omega) (w.heap.size+1) (by simp) ?_
 ·intro j v hv
  match j,hv with
  |0,hv=>simp at hv;subst hv;simp[Addr.add]
 ·intro v hv;simp at hv;subst hv;exact h1
 ·have:(n+1)*bytes<=100000001*64:=Nat.mul_le_mul (by omega) xD;omega
 ·intro g' cap' w' wj cJ dF hlt;refine h g' cap' w' wj ⟨cJ.os,cJ.tape,cJ.output,aW (by simp) cJ.size,λk hk hne=>?_⟩ ?_
  ·rw[cJ.block k (by simp;omega) hne,Below.heap_alloc _ _ _ hk]
  ·rcases dF with dF|dF
   ·exact .inl dF
   ·exact .inr (by omega)
theorem zqH(m:Nat)(sP:zg)(xs:List zg)(b:Bool)(w:zh)(h:w.ownsRow 0 4 1 sP m xs)(hm:m<=100000000):
  ∃g c w',(CA #[144,144] 144 #[sP,ze (zc ⟨w.heap.size,0,zd⟩) 1 1]).run prog (w.alloc (zf #[.bool b] 4))=.ok (ze (zc ⟨g,0,zd⟩) (m+1) c) w'/\w'.ownsRow 0 4 1 (ze (zc ⟨g,0,zd⟩) (m+1) c) (m+1) (xs++[.bool b])/\w.grownBy w' sP.ownBlock/\(sP.ownBlock=zc g\/w.heap.size<=g):=by
 obtain⟨i1,hj,qO,kY,od⟩:=info_parts Tryz.zAk;obtain⟨g8,im,w8,kV,aB,cJ,dF,hlt⟩:=run_append_lies (P:=prog) (w.alloc (zf #[.bool b] 4)) 144 144 0 4 i1 _ 1 1 underlying144 hj qO kY od rfl (by decide) sP m xs (h.alloc _) ⟨w.heap.size,0,zd⟩ 1 1 [.bool b] rfl (λj u hj=>by
   match j,hj with
   |0,hj=>simp at hj;subst hj;simp[Addr.add]) (by intro u hu;simp at hu;subst hu;rfl) (by omega) (by unfold maxLen;omega) (by omega) (by simp) (w.heap.size+1) (by simp)
 exact⟨g8,im,w8,kV,aB,⟨cJ.os,cJ.tape,cJ.output,aW (by simp) cJ.size,λk hk hne=>by rw[cJ.block k (by simp;omega) hne,Below.heap_alloc _ _ _ hk]⟩,dF.imp id λe=>by omega⟩
theorem znv(nw:Nat)(Ts:Nat->Nat->Nat)(T:Nat->Nat)(m:Nat):jf nw Ts m++[lJ nw T]=jf nw (λi=>if i=m then T else Ts i) (m+1):=by
 simp only[jf,yD,zX,wU,List.map_nil,aC]
 congr 1
 exact BV λi hi=>by rw[ak (by have:=Ab.1 hi;omega)]
theorem zsg(nw:Nat)(Ts:Nat->Nat->Nat)(L T:Nat->Nat)(m:Nat):Dv nw Ts L m++[.bool (kO nw T L)]=Dv nw (λi=>if i=m then T else Ts i) L (m+1):=by
 simp only[Dv,yD,zX,wU,List.map_nil,aC]
 congr 1
 exact BV λi hi=>by rw[ak (by have:=Ab.1 hi;omega)]
theorem zkl(gx:Nat->Nat)(nw g m:Nat):gO gx nw m++[ze (zc ⟨g,0,zd⟩) nw nw]=gO (λi=>if i=m then g else gx i) nw (m+1):=by
 simp only[gO,yD,zX,wU,List.map_nil,aC]
 congr 1
 exact BV λi hi=>by rw[ak (by have:=Ab.1 hi;omega)]
structure KR(gm:Nat)(w w':zh):Prop where
 u:∀(k:Nat) (cs:Array zg),w.heap[k]?=zc (zf cs 236 (0,0))->w'.heap[k]?=zc (zf cs 236 (0,0))
 m:∀(k:Nat) (es:Array MapEntry) (c:Nat),w.heap[k]?=zc (.map es c)->k≠gm->w'.heap[k]?=zc (.map es c)
theorem KR.trans{a b c:zh}(h:KR gm a b)(k:KR gm b c):KR gm a c:=⟨λi cs e=>k.u i cs (h.u i cs e),λi es x e hn=>k.m i es x (h.m i es x e hn) hn⟩
theorem KR.below(h:zi w.heap.size w w'):KR gm w w':=⟨λk _ e=>(h.block k (ah.1 e).1).trans e,λk _ _ e _=>(h.block k (ah.1 e).1).trans e⟩
theorem KR.grown{g:Nat}{o:Option Nat}(h:w.grownBy w' o)(hg:o=zc g->g=gm\/∃cs t,w.heap[g]?=zc (zf cs t (0,0))/\t≠236)(ho:∀k,o=zc k->k=g)(LU:∀(cs:Array zg),w.heap[gm]?≠zc (zf cs 236 (0,0))):KR gm w w':=by
 refine⟨λk cs e=>(h.block k (ah.1 e).1 λe2=>?_).trans e,λk es c e hn=>(h.block k (ah.1 e).1 λe2=>?_).trans e⟩
 ·have:=ho k e2.symm;subst this;rcases hg e2.symm with rfl|⟨fN,t,h1,h2⟩
  ·exact LU cs e
  ·rw[e]at h1;exact h2 (bL h1).symm
 ·have:=ho k e2.symm;subst this;rcases hg e2.symm with h1|⟨fN,t,h1,h2⟩
  ·exact hn h1
  ·rw[e]at h1;cases h1
theorem znS(h:fF O w r nw bt ga gl lv L gm gv sS sP gx Ts m es)(g:Nat)(T:Nat->Nat)(hT:aH w nw g T)(hL:aH w nw gl L)(bY:nw<=1000)(hm:m<=100000000)(hk:lJ nw T∉jf nw Ts m):
  zo prog 169 #[zj (zc ⟨r,0,zd⟩),ze (zc ⟨g,0,zd⟩) nw nw] w λe w'=>Kv O w r nw bt ga gl lv L gm gv gx Ts m es g T e w':=by
 obtain⟨i1,hj,qO,kY,od⟩:=info_parts Tryz.Mw;have LL:=λ(W:zh) (hb:zi w.heap.size w W)=>zsB nw g nw T W (hT.below hb) bY
 have Dg:=λ(W:zh) (hb:zi w.heap.size w W)=>zhW gm (jf nw Ts m) (lJ nw T) W (by rw[Jt];exact(hb.block gm (ah.1 h.nm).1).trans h.nm)
 obtain⟨b0,b1,b2,b3,b4,b5,b6,b7⟩:=oA h.box;have kX:=(ah.1 h.box).1;have du:zi w.heap.size w w.drew:=(Below.refl _ _).drew;have lX:Cy (jf nw Ts m) (lJ nw T)=jf nw (λi=>if i=m then T else Ts i) (m+1):=by unfold Cy;rw[ak hk,znv]
 have zwS:dW (jf nw Ts m) (lJ nw T)=m:=by rw[zmg hk,Jt]
 have H:zn (fF O w r nw bt ga gl lv L gm gv sS sP gx Ts m es):=h;have HT:zn (aH w nw g T):=hT;have HL:zn (aH w nw gl L):=hL;have HND:zn (∀i j,i<m+1->j<m+1->(∀x,x<nw->(λi=>if i=m then T else Ts i) i x=(λi=>if i=m then T else Ts i) j x)->i=j):=λi j hi hj he=>by
  have one:∀j,j<m->¬∀x,x<nw->T x=Ts j x:=λj hj hx=>hk (by
   rw[(zph hT.lt (h.set j hj).lt).2 hx];exact rh.2 ⟨j,Ab.2 hj,rfl⟩)
  by_cases ei:i=m
  ·by_cases ej:j=m
   ·omega
   ·simp only[aC ei,ak ej]at he;exact absurd he (one j (by omega))
  ·by_cases ej:j=m
   ·simp only[ak ei,aC ej]at he;exact absurd (λx hx=>(he x hx).symm) (one i (by omega))
   ·simp only[ak ei,ak ej]at he;exact h.nd i j (by omega) (by omega) he
 have Mb:r≠gm:=λe=>by have h1:=h.box;rw[e,h.nm]at h1;cases h1
 obtain⟨aS,cS,rfl⟩:=DA h.so;obtain⟨aP,cP,rfl⟩:=DA h.po;clear h hT hL
 go_enter func169,ntmps169
 go_wp2
 go_region_held3 (λw'=>w'.cell? ⟨r,4,zd⟩=zc (.map (zc gm))) ((first|exact b4|exact(World.cell?_of_block Bu).trans ((bD.cell (p:=⟨r,4,zd⟩) kX).trans b4)|exact(bD.cell (p:=⟨r,4,zd⟩) (by show r<w.heap.size;exact kX)).trans b4|go_keep)) ((first|(go_at_call 194;refine(LL _ du).mono ?_;rintro e w5 ⟨rfl,bD⟩)|(go_at_call 193;refine(Dg _ (aq du du.size bD)).mono ?_;rintro e w6 ⟨he,zy,pd⟩;rw[lX,Jt]at zy;simp only[hk,not_false_eq_true,decide_true,zwS]at he;subst he;have Bu:w6.heap[r]?=w5.heap[r]?:=pd.block r (bA kX bD.size) (by simpa using Mb))))
 all_goals
  have Pk:=aq du du.size bD;have h5:=H.out.keep (λk _ hl=>Pk.block k hl);have VZ:=h5.nm;have MB:KR gm w w6:=(KR.below Pk).trans (KR.grown (g:=gm) pd (λ_=>.inl rfl) (λk e=>by simpa using e.symm) (λcs e=>by rw[VZ]at e;cases e));have vN:=Bu.trans h5.box;obtain⟨z0,z1,z2,z3,z4,z5,z6,z7⟩:=oA vN;have f5:=cT _ _ 5 _ _ vN;have f6:=cT _ _ 6 _ _ vN;have Du:w6.ownsRow 0 193 1 (.slice aS m cS) m (gO gx nw m):=QC h5.so λk e=>pd.block k (by obtain⟨-,ax,e3⟩:=ke h5.so e;exact(ah.1 e3).1) (λe2=>by
   have e2:k=gm:=by simpa using e2
   obtain⟨-,ax,e3⟩:=ke h5.so e;rw[e2,h5.nm]at e3;cases e3)
  have zAc:r<w6.heap.size:=(ah.1 vN).1;have MM:∀k,(Value.slice aS m cS).ownBlock=zc k->∃ax,w6.heap[k]?=zc (zf ax 193 (0,0)):=λk e=>(ke Du e).2
  have zxd:zc r≠(Value.slice aS m cS).ownBlock:=λe=>by
   obtain⟨ax,e3⟩:=MM r e.symm;rw[vN]at e3;exact absurd (bL e3) (by decide)
  have Ak:zn (KR gm w w6/\ap O w w6/\w6.heap[gm]?=zc (.map (my Value.string (jf nw (λi=>if i=m then T else Ts i) (m+1))) (m+1))/\w6.ownsRow 0 4 1 (.slice aP m cP) m (Dv nw Ts L m)):=by
   refine⟨MB,(ap.bR Pk).grown pd (λk e=>.inl (by cases e;exact H.out.om)),zy,QC h5.po λk e=>pd.block k ?_ λe2=>?_⟩
   ·obtain⟨-,ax,e3⟩:=ke h5.po e;exact(ah.1 e3).1
   ·have e2:k=gm:=by simpa using e2
    obtain⟨-,ax,e3⟩:=ke h5.po e;rw[e2,VZ]at e3;cases e3
  clear MB h5 zy VZ bD Pk pd Bu LL Dg lX zwS du b0 b1 b2 b3 b4 b5 b6 b7
  go_wp2_with (refine WJ w6 _ rfl rfl (.tmp 22) (.tmp 24) 227 rfl 0 193 i1 (ze zd 0 0) 24 underlying227 hj qO kY od rfl (.slice aS m cS) m (gO gx nw m) (ze (zc ⟨g,0,zd⟩) nw nw) rfl Du rfl rfl (by omega) (by omega) (by omega) ?_;intro g7 bG w7 fh er iI;have qC:=(er.block r zAc zxd).trans vN;obtain⟨-,-,-,q3,-,q5,q6,-⟩:=oA qC;have fq5:=cT _ _ 5 _ _ qC;have fq6:=cT _ _ 6 _ _ qC)
  obtain⟨W8,Ba⟩:∃W8,w7.setCell ⟨r,5,zd⟩ (ze (zc ⟨g7,0,zd⟩) (m+1) bG)=W8:=⟨_,rfl⟩;have Ha:W8.heap[r]?=zc (zf #[zj (zc ⟨bt,0,zd⟩),lv,ze (zc ⟨ga,0,zd⟩) nw nw,ze (zc ⟨gl,0,zd⟩) nw nw,.map (zc gm),ze (zc ⟨g7,0,zd⟩) (m+1) bG,.slice aP m cP,.map (zc gv)] 234 (0,0)):=by rw[<-Ba];exact dE _ _ 5 _ _ _ qC
  have kz:∀k,k≠r->W8.heap[k]?=w7.heap[k]?:=λk hk=>by rw[<-Ba];exact cH _ _ _ _ (by show k≠r;exact hk)
  have g8:w7.grownBy W8 (zc r):=by rw[<-Ba];exact iZ _ _ _ _
  have Tz:gm≠r:=λe=>Mb e.symm
  have V0:W8.heap[gm]?=zc (.map (my Value.string (jf nw (λi=>if i=m then T else Ts i) (m+1))) (m+1)):=by
   rw[kz gm Tz,er.block gm (ah.1 Ak.out.2.2.1).1 (λe=>by obtain⟨ax,e3⟩:=MM gm e.symm;rw[Ak.out.2.2.1]at e3;cases e3)];exact Ak.out.2.2.1
  have Fz:KR gm w W8:=by
   refine(Ak.out.1.trans (KR.grown (g:=((Value.slice aS m cS).ownBlock).getD 0) er (λe=>.inr ?_) (λk e=>by rw[e];rfl) (λcs e=>by rw[Ak.out.2.2.1]at e;cases e))).trans (KR.grown (g:=r) g8 (λ_=>.inr ⟨_,_,qC,by decide⟩) (λk e=>by simpa using e.symm) (λcs e=>?_))
   ·obtain⟨ax,e3⟩:=MM _ e;exact⟨ax,_,e3,by decide⟩
   ·rw[<-kz gm Tz,V0]at e;cases e
  have nj:ap O w W8:=(Ak.out.2.1.grown er (λk e=>.inl (H.out.os k e))).grown g8 (λk e=>.inl (by cases e;exact H.out.or));have lN:W8.ownsRow 0 193 1 (ze (zc ⟨g7,0,zd⟩) (m+1) bG) (m+1) (gO (λi=>if i=m then g else gx i) nw (m+1)):=by
   rw[<-zkl];exact li fh λk cs e=>(kz k (λe2=>by rw[e2,qC]at e;exact absurd (bL e) (by decide))).trans e
  have po8:W8.ownsRow 0 4 1 (.slice aP m cP) m (Dv nw Ts L m):=li Ak.out.2.2.2 λk cs e=>by
   have e7:=(er.block k (ah.1 e).1 (λe2=>by obtain⟨ax,e3⟩:=MM k e2.symm;rw[e]at e3;exact absurd (bL e3) (by decide))).trans e;exact(kz k (λe2=>by rw[e2,qC]at e7;exact absurd (bL e7) (by decide))).trans e7
  have zwK:O g7\/w.heap.size<=g7:=by
   rcases iI with e|e
   ·exact .inl (H.out.os g7 e)
   ·exact .inr (by have:=Ak.out.2.1.size;omega)
  have pg:aH W8.drew nw g T:=⟨Fz.u _ _ HT.out.row,HT.out.lt⟩;have pl:aH W8.drew nw gl L:=⟨Fz.u _ _ HL.out.row,HL.out.lt⟩;have LV:=zmr nw g gl nw nw T L W8.drew pg pl bY;have r8l:r<W8.heap.size:=(ah.1 Ha).1;have Fj:∀w9:zh,zi W8.drew.heap.size W8.drew w9->∃g10 CD kK,w9.cell? ⟨r,6,zd⟩=zc (.slice aP m cP)/\(w9.alloc (zf #[.bool (kO nw T L)] 4)).cell? ⟨r,6,zd⟩=zc (.slice aP m cP)/\(CA #[144,144] 144 #[.slice aP m cP,ze (zc ⟨w9.heap.size,0,zd⟩) 1 1]).run prog (w9.alloc (zf #[.bool (kO nw T L)] 4))=.ok (ze (zc ⟨g10,0,zd⟩) (m+1) CD) kK/\kK.cell? ⟨r,6,zd⟩=zc (.slice aP m cP)/\kK.frozen? ⟨r,6,zd⟩=false/\
    zn (Kv O w r nw bt ga gl lv L gm gv gx Ts m es g T (.returned (zk .i64 m)) (kK.setCell ⟨r,6,zd⟩ (ze (zc ⟨g10,0,zd⟩) (m+1) CD))):=λw9 nT=>by
   have Be:zi W8.heap.size W8 w9:=⟨nT.os,nT.tape,nT.output,nT.size,nT.block⟩;have Te:=(Be.block r r8l).trans Ha;have po9:=li (W:=w9) po8 λk cs e=>(Be.block k (ah.1 e).1).trans e
   obtain⟨g10,CD,kK,kV,V9,AY,zyC⟩:=zqH m _ _ (kO nw T L) w9 po9 (by omega);have zAx:∀k,(Value.slice aP m cP).ownBlock=zc k->∃ax,w9.heap[k]?=zc (zf ax 4 (0,0)):=λk e=>(ke po9 e).2
   have Ro:∀(k:Nat) (o:Obj),w9.heap[k]?=zc o->(∀cs,o≠zf cs 4 (0,0))->kK.heap[k]?=zc o:=λk o e hn=>(AY.block k (ah.1 e).1 (λe2=>by
    obtain⟨ax,e3⟩:=zAx k e2.symm;rw[e]at e3;exact hn ax (Option.some.inj e3))).trans e
   have AO:=Ro r _ Te (λcs e=>by injection e with _ e;exact absurd e (by decide));refine⟨g10,CD,kK,(oA Te).2.2.2.2.2.2.1,(oA (cX Te)).2.2.2.2.2.2.1,kV,(oA AO).2.2.2.2.2.2.1,cT _ _ 6 _ _ AO,?_⟩;obtain⟨tj,Pb⟩:∃tj,kK.setCell ⟨r,6,zd⟩ (ze (zc ⟨g10,0,zd⟩) (m+1) CD)=tj:=⟨_,rfl⟩;have zy1:tj.heap[r]?=zc (zf #[zj (zc ⟨bt,0,zd⟩),lv,ze (zc ⟨ga,0,zd⟩) nw nw,ze (zc ⟨gl,0,zd⟩) nw nw,.map (zc gm),ze (zc ⟨g7,0,zd⟩) (m+1) bG,ze (zc ⟨g10,0,zd⟩) (m+1) CD,.map (zc gv)] 234 (0,0)):=by rw[<-Pb];exact dE _ _ 6 _ _ _ AO
   have zxo:∀k,k≠r->tj.heap[k]?=kK.heap[k]?:=λk hk=>by rw[<-Pb];exact cH _ _ _ _ (by show k≠r;exact hk)
   have g11:kK.grownBy tj (zc r):=by rw[<-Pb];exact iZ _ _ _ _
   have up:∀(k:Nat) (o:Obj),W8.heap[k]?=zc o->(∀cs,o≠zf cs 4 (0,0))->k≠r->tj.heap[k]?=zc o:=λk o e hn hk=>(zxo k hk).trans (Ro k o ((Be.block k (ah.1 e).1).trans e) hn)
   have VY:∀(k:Nat) (o:Obj),W8.heap[k]?=zc o->(∀cs,o≠zf cs 234 (0,0))->k≠r:=λk o e hn e2=>by
    rw[e2,Ha]at e;exact hn _ (Option.some.inj e).symm
   have zAv:=up gm _ V0 (λcs e=>by cases e) Tz;have mv8:=Fz.m _ _ _ H.out.mv (λe=>H.out.AV e.symm);have zAu:=up gv _ mv8 (λcs e=>by cases e) (VY gv _ mv8 (λcs e=>by cases e));have zx9:∀(x:Nat) (U:Nat->Nat),aH w nw x U->aH tj nw x U:=λx U hp=>by
    have e8:=Fz.u _ _ hp.row;exact⟨up x _ e8 (λcs e=>by injection e with _ e;exact absurd e (by decide)) (VY x _ e8 (λcs e=>by injection e with _ e;exact absurd e (by decide))),hp.lt⟩
   have zAI:=li (W:=tj) lN λk cs e=>up k _ e (λcs e=>by injection e with _ e;exact absurd e (by decide)) (VY k _ e (λcs e=>by injection e with _ e;exact absurd e (by decide)))
   have zAy:tj.ownsRow 0 4 1 (ze (zc ⟨g10,0,zd⟩) (m+1) CD) (m+1) (Dv nw (λi=>if i=m then T else Ts i) L (m+1)):=by
    rw[<-zsg];exact li V9 λk cs e=>(zxo k (λe2=>by rw[e2,AO]at e;exact absurd (bL e) (by decide))).trans e
   have zAK:ap O w tj:=by
    have t9:ap O w w9:=⟨Be.os.trans nj.os,Be.tape.trans nj.tape,Be.output.trans nj.output,aW nj.size Be.size,λk hk hn=>(Be.block k (bA hk nj.size)).trans (nj.same k hk hn)⟩;exact(t9.grown AY (λk e=>.inl (H.out.op k e))).grown g11 (λk e=>.inl (by cases e;exact H.out.or))
   have zzE:O g10\/w.heap.size<=g10:=by
    rcases zyC with e|e
    ·exact .inl (H.out.op g10 e)
    ·exact .inr (by have:=nj.size;have:=Be.size;omega)
   rw[Pb];refine⟨m,m+1,_,_,(λi=>if i=m then g else gx i),(λi=>if i=m then T else Ts i),rfl,⟨zy1,zAv,zAu,zAI,zAy,λi hi=>?_,H.out.AV,.inl H.out.or,.inl H.out.om,.inl H.out.ov,λk e=>?_,λk e=>?_,λi hi=>?_,HND.out⟩,by omega,by omega,aj _,λj hj=>⟨ak (by omega),ak (by omega)⟩,λx _=>by simp,λj h1 h2=>by omega,zAK⟩
   ·by_cases e:i=m
    ·simp only[aC e];exact zx9 _ _ HT.out
    ·simp only[ak e];exact zx9 _ _ (H.out.set i (by omega))
   ·have e:g7=k:=by simpa [Value.ownBlock]using e
    subst e;exact zwK.imp id λh=>.inr h
   ·have e:g10=k:=by simpa [Value.ownBlock]using e
    subst e;exact zzE.imp id λh=>.inr h
   ·by_cases e:i=m
    ·simp only[aC e];exact .inr (.inl (by first|trivial|rfl))
    ·simp only[ak e];exact .inl (H.out.ox i (by omega))
  have d3:W8.cell? ⟨r,3,zd⟩=zc (ze (zc ⟨gl,0,zd⟩) nw nw):=(oA Ha).2.2.2.1;have d6:W8.cell? ⟨r,6,zd⟩=zc (.slice aP m cP):=(oA Ha).2.2.2.2.2.2.1;clear Ha kz g8 V0 Fz nj lN po8 zwK pg pl Ak H HT HL fh er iI qC vN MM Du zxd z0 z1 z2 z3 z4 z5 z6 z7 f5 f6 q3 q5 q6 fq5 fq6;rw[Ba];clear Ba;go_wp2
  go_region_law ((first|(refine DN (by rfl) 195 #[.tmp 33,.tmp 37] #[193,193] (by rfl) #[ze (zc ⟨g,0,zd⟩) nw nw,ze (zc ⟨gl,0,zd⟩) nw nw] (by simp[Act.eval]) (.bool (kO nw T L)) (λw'=>zi W8.drew.heap.size W8.drew w') (znc _ _) LV ?_;intro w9 Dj;obtain⟨g10,CD,kK,e9,e9',kV,Tq,f10,H10⟩:=Fj w9 Dj;clear Dj)|(refine Xz (by rfl) (.tmp 32) (.tmp 39) 144 (by rfl) _ _ (by rfl) (by rfl) _ _ kV ?_)))
  all_goals
   clear Fj LV kV e9 e9' Tq f10;go_wp2;exact bh (v:=zk .i64 m) (by simp[results,results169,go_sem]) rfl H10.out
theorem zd8(h:fF O w r nw bt ga gl lv L gm gv sS sP gx Ts m es)(g:Nat)(T:Nat->Nat)(hT:aH w nw g T)(hL:aH w nw gl L)(bY:nw<=1000)(hm:m<=100000000):
  zo prog 169 #[zj (zc ⟨r,0,zd⟩),ze (zc ⟨g,0,zd⟩) nw nw] w λe w'=>Kv O w r nw bt ga gl lv L gm gv gx Ts m es g T e w':=by
 by_cases hk:lJ nw T∈jf nw Ts m
 ·exact znT h g T hT bY hk
 ·exact znS h g T hT hL bY hm hk
end
end
variable {w:zh}{n nw bt ga gl m:Nat}{lv:zg}{Lk Ts:Nat -> Nat -> Nat}{A L:Nat -> Nat}{f:Nat -> Nat -> Bool}{es:List (Int×Int)}
attribute [local go_sem] Oper.semAt_some
structure pN(B:Nat)(w:zh)(n nw bt ga gl:Nat)(lv sv fv:zg)(lr mk:Nat->Nat)(Lk:Nat->Nat->Nat)(A L:Nat->Nat)(f:Nat->Nat->Bool):Prop where
 box:vt w bt nw sv fv
 AP:bt<B
 Dx:0<n->∃gs cs:Nat,sv=ze (zc ⟨gs,0,zd⟩) n cs/\gs<B/\∀p,p<n->w.cell? ⟨gs,p,zd⟩=zc (zj (zc ⟨mk p,0,zd⟩))
 qf:∀p,p<n->w.heap[mk p]?=zc (zf (dz (f p)) 293 (0,0))/\mk p<B
 MG:0<n->∃gf cf:Nat,lv=ze (zc ⟨gf,0,zd⟩) n cf/\gf<B/\∀p,p<n->w.cell? ⟨gf,p,zd⟩=zc (ze (zc ⟨lr p,0,zd⟩) nw nw)
 wE:∀p,p<n->aH w nw (lr p) (Lk p)/\lr p<B
 pa:aH w nw ga A/\ga<B
 pl:aH w nw gl L/\gl<B
 dv:fS w
 pos:0<B
 le:B<=w.heap.size
 kE:n<=64*nw
 ic:nw<=1000
 lb:∀p q,p<n->q<64*nw->au (Lk p) q=true->q<n
 ab:∀q,q<64*nw->au A q=true->q<n
theorem pN.keep{B:Nat}{w':zh}{sv fv:zg}{lr mk:Nat->Nat}(h:pN B w n nw bt ga gl lv sv fv lr mk Lk A L f)(hk:∀k,k<B->w'.heap[k]?=w.heap[k]?)(hs:B<=w'.heap.size):pN B w' n nw bt ga gl lv sv fv lr mk Lk A L f:=by
 have hc:∀k o,k<B->w'.cell? ⟨k,o,zd⟩=w.cell? ⟨k,o,zd⟩:=λk o hl=>World.cell?_of_block (hk k hl)
 have hp:∀{g:Nat} {T:Nat->Nat},aH w nw g T->g<B->aH w' nw g T:=λh hl=>⟨(hk _ hl).trans h.row,h.lt⟩
 refine⟨(hk bt h.AP).trans h.box,h.AP,λhn=>?_,λp hn=>⟨(hk _ (h.qf p hn).2).trans (h.qf p hn).1,(h.qf p hn).2⟩,λhn=>?_,λp hn=>⟨hp (h.wE p hn).1 (h.wE p hn).2,(h.wE p hn).2⟩,⟨hp h.pa.1 h.pa.2,h.pa.2⟩,⟨hp h.pl.1 h.pl.2,h.pl.2⟩,h.dv.keep (hk 0 h.pos),h.pos,hs,h.kE,h.ic,h.lb,h.ab⟩
 ·obtain⟨gs,cs,e,hl,k⟩:=h.Dx hn;exact⟨gs,cs,e,hl,λp hp=>(hc _ _ hl).trans (k p hp)⟩
 ·obtain⟨gs,cs,e,hl,k⟩:=h.MG hn;exact⟨gs,cs,e,hl,λp hp=>(hc _ _ hl).trans (k p hp)⟩
def yv(nw:Nat)(f:Nat->Nat->Bool)(Lk:Nat->Nat->Nat)(A:Nat->Nat)(T:Nat->Nat)(c:Nat)(b:Bool)(U:Nat->Nat):Prop:=
 ∀q,q<64*nw->(au U q=true↔f q c=true/\((∃p,p<64*nw/\au T p=true/\au (Lk p) q=true)\/(b=true/\au A q=true)))
def iF(i c:Nat)(b:Bool):Int:=2*(256*(i:Int)+(c:Int))+(if b then 1 else 0)
theorem zoC{i c i' c':Nat}{b b':Bool}(h:iF i c b=iF i' c' b')(hc:c<256)(hc':c'<256):i=i'/\c=c'/\b=b':=by
 unfold iF at h;cases b<;>cases b'<;>simp at h ⊢<;>omega
def uk(nw:Nat)(f:Nat->Nat->Bool)(Lk:Nat->Nat->Nat)(A:Nat->Nat)(Ts:Nat->Nat->Nat)(m:Nat)(es:List (Int×Int)):Prop:=
 ∀k∈eA es,∃(i c:Nat) (b:Bool) (v:Nat),k=iF i c b/\i<m/\c<256/\v<m/\qR es k=v/\yv nw f Lk A (Ts i) c b (Ts v)
theorem zhN(es:List (Int×Int))(k v:Int):eA (es++[(k,v)])=eA es++[k]:=by simp[eA]
theorem zj4{k k' v:Int}(h:k∈eA es):qR (es++[(k',v)]) k=qR es k:=by
 have hl:=(Rp es k).2 h;have e:dW (eA (es++[(k',v)])) k=dW (eA es) k:=by
  rw[zhN];unfold dW at hl ⊢;rw[List.findIdx_append,aC (by simpa [eA]using hl)]
 unfold qR;rw[e,bP,bP,zX,pH (by rw[rf];exact hl)]
theorem uk.more{iR:Nat->Nat->Nat}{m':Nat}(h:uk nw f Lk A Ts m es)(hm:m<=m')(hT:∀j,j<m->iR j=Ts j):uk nw f Lk A iR m' es:=λk hk=>by
 obtain⟨i,c,b,v,h1,h2,h3,h4,h5,h6⟩:=h k hk;exact⟨i,c,b,v,h1,by omega,h3,by omega,h5,by rw[hT i h2,hT v h4];exact h6⟩
theorem uk.put(h:uk nw f Lk A Ts m es){i c v:Nat}{b:Bool}(hi:i<m)(hc:c<256)(hv:v<m)(hn:iF i c b∉eA es)(hs:yv nw f Lk A (Ts i) c b (Ts v)):uk nw f Lk A Ts m (es++[(iF i c b,(v:Int))]):=λk hk=>by
 rw[zhN]at hk
 by_cases UJ:k∈eA es
 ·obtain⟨i',c',b',v',h1,h2,h3,h4,h5,h6⟩:=h k UJ;exact⟨i',c',b',v',h1,h2,h3,h4,by rw[zj4 UJ];exact h5,h6⟩
 ·have e:k=iF i c b:=by
   rcases fm.1 hk with h1|h1
   ·exact absurd h1 UJ
   ·exact eK.1 h1
  subst e;exact⟨i,c,b,v,rfl,hi,hc,hv,zj3 hn,hs⟩
def Gv(n nw:Nat)(Ts:Nat->Nat->Nat)(m:Nat):Prop:=∀i q,i<m->q<64*nw->au (Ts i) q=true->q<n
def JS(O:Nat->Prop)(w:zh)(n r nw bt ga gl:Nat)(lv:zg)(f:Nat->Nat->Bool)(Lk:Nat->Nat->Nat)(A L:Nat->Nat)(gm gv:Nat)(gx:Nat->Nat)(Ts:Nat->Nat->Nat)(m i c:Nat)(b:Bool)(e:Ending)(w':zh):Prop:=
 ∃(t m':Nat) (sS sP:zg) (pO:Nat->Nat) (iR:Nat->Nat->Nat) (es':List (Int×Int)),e=.returned (zk .i64 t)/\fF (λk=>O k\/(w.heap.size<=k/\k<w'.heap.size)) w' r nw bt ga gl lv L gm gv sS sP pO iR m' es'/\t<m'/\m<=m'/\m'<=m+1/\(∀j,j<m->pO j=gx j/\iR j=Ts j)/\yv nw f Lk A (Ts i) c b (iR t)/\uk nw f Lk A iR m' es'/\Gv n nw iR m'/\ap O w w'
theorem Tryz.zyd(w:zh):(zeroValue 3).run prog w=.ok (zk .i64 0) w:=by
 simp[zeroValue,typeInfo]
 kernel_rfl
theorem zrZ{O:Nat->Prop}{r:Nat}{gm gv:Nat}{sS sP:zg}{gx:Nat->Nat}(h:fF O w r nw bt ga gl lv L gm gv sS sP gx Ts m es)(hM:uk nw f Lk A Ts m es)(hS:Gv n nw Ts m)(i c:Nat)(b:Bool)(hc:c<256)(hi:i<m)(hm:m<=100000000)(hk:iF i c b∈eA es):
  zo prog 147 #[zj (zc ⟨r,0,zd⟩),zk .i64 i,.int .u8 c,.bool b] w λe w'=>JS O w n r nw bt ga gl lv f Lk A L gm gv gx Ts m i c b e w':=by
 obtain⟨i',c',b',v,hcd,-,hc',hv,hg,hst⟩:=hM _ hk;obtain⟨rfl,rfl,rfl⟩:=zoC hcd hc hc';obtain⟨W1,cm⟩:∃W1,w.alloc (zf #[zj (zc ⟨r,0,zd⟩)] 191)=W1:=⟨_,rfl⟩;have ag:zi w.heap.size w W1:=by rw[<-cm];exact aw
 have c0:W1.cell? ⟨w.heap.size,0,zd⟩=zc (zj (zc ⟨r,0,zd⟩)):=by rw[<-cm];exact(aM _ _ _ _ _ _ (aI _ _):_=_)
 have h1:=h.keep (w':=W1) λk _ hl=>ag.block k hl
 have b7:=(oA h1.box).2.2.2.2.2.2.2;have hl:=zpz W1 underlying232 underlying3 (Tryz.zyd W1) gv es (iF i c b) h1.mv;rw[hg]at hl;have xF:decide (iF i c b∈eA es)=true:=by simp[hk]
 rw[xF]at hl;have Ot:zn (JS O w n r nw bt ga gl lv f Lk A L gm gv gx Ts m i c b (.returned (zk .i64 v)) W1):=⟨v,m,sS,sP,gx,Ts,es,rfl,h1.mono λk hk=>.inl hk,hv,aj _,by omega,λ_ _=>⟨rfl,rfl⟩,hst,hM,hS,ap.bR ag⟩;have hcv:IntKind.i64.wrap (c:Int)=(c:Int):=by rw[IntKind.wrap_i64];omega
 have II:iF i c b=2*(256*(i:Int)+(c:Int))+(if b=true then 1 else 0):=rfl;rw[II]at hl;clear II h h1 hM hS hst hg xF;cases b
 all_goals
  simp only[if_true,if_false,zZ,Int.add_zero]at hl
  go_enter func147,ntmps147
  go_wp2;exact bh (v:=zk .i64 v) (by simp[results,results147,go_sem]) rfl Ot.out
end Go.Proofs.YtdimhpfiieepiaaGreatDoor
