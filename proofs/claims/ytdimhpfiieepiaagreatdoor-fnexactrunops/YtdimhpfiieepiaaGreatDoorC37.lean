import Derived.Test.YtdimhpfiieepiaaGreatDoorC36
import Derived.Deep.RegionHeld3
import Derived.Deep.DrawnRows
import Derived.Deep.QuietTactic
import Derived.BigQuiet
namespace Go.Proofs.YtdimhpfiieepiaaGreatDoor
open Proofs.Tryz
open Value renaming int->za,agg->zf,slice->zi,pointer->zl
open Option renaming none->zb,some->zc
open Obj renaming cells->zd
open Go renaming World->ze,Value->zj,Calls->zk,TypeId->zm
open RowKit renaming Below->zg,Hid->zh
set_option maxHeartbeats 2000000
set_option maxRecDepth 100000
open Go.RowKit
attribute [local go_sem ↓] wp_at_zero wp_at_succ
section
variable {c:rk}{Z:Nat -> Nat -> Prop}{W:ze}
theorem dI.Wn{P:Nat->Option Nat}{W':ze}(h:dI c P Z W){cs:Array zj}(hg:W.heap[c.gs]?=zc (zd cs 32 (0,0)))(tc:ap (· = c.gs) W W'):dI c P Z W':=
 h.other tc (λmg f e=>(tc.same mg (ah.1 e).1 (λq=>by
  have q:mg=c.gs:=q;rw[q,hg]at e;exact absurd (bL e) (by decide))).trans e) (λk e=>⟨.inl e,λj hz=>by
  have e:k=c.gs:=e;have:=(h.nF j k hz).1;have:=h.EI;omega⟩)
def SJ(c:rk)(Z:Nat->Nat->Prop)(W:ze)(rs:List bi)(d:bj)(s:cK)(e:Ending)(W':ze):Prop:=
 ∃(s':cK) (x:cD) (v:zj) (P':Nat->Option Nat) (Z':Nat->Nat->Prop),vG rs d s s' x/\e=.returned (yV x v)/\W'.heap[c.gs]?=zc (zd (eI s'.L s'.B s'.C s'.S s'.N) 32 (0,0))/\W'.ownsRow W.heap.size 71 2 v x.dN.length (pv x.dN)/\dI c P' Z' W'/\ap (λk=>k=c.gs\/k=c.gq\/∃j,Z j k) W W'/\(∀j k,Z' j k->Z j k\/W.heap.size<=k)/\∀j k,v.ownBlock=zc k->¬Z' j k
theorem zj8{Z':Nat->Nat->Prop}{P':Nat->Option Nat}{X:ze}{rs:List bi}{d:bj}{s s':cK}{x:cD}{v:zj}(hx:vG rs d s s' x)(hl:c.gs<W.heap.size)(hg:X.heap[c.gs]?=zc (zd (eI s'.L s'.B s'.C s'.S s'.N) 32 (0,0))){lo:Nat}(jZ:W.heap.size<lo)(ho:X.ownsRow lo 71 2 v x.dN.length (pv x.dN))(tX:ap (λk=>k=c.gs\/k=c.gq\/∃j,Z j k) W X)
  (hF:dI c P' Z' X) (hw:c.WF.heap.size<=W.heap.size) (hz:∀j k,Z' j k->Z j k\/W.heap.size<=k) (wh:∀j,¬Z' j W.heap.size) (hv:∀j k,v.ownBlock=zc k->¬Z' j k) {cc:Array zj} (y:X.heap[W.heap.size]?=zc (zd cc 35 (0,0))):
  SJ c Z W rs d s (.returned (yV x v)) (oq X W.heap.size x.kind x.rule x.start x.fin v):=by
 have put:∀{S:Nat->Prop} {U:ze},ap S U X->S W.heap.size\/U.heap.size<=W.heap.size->ap S U (oq X W.heap.size x.kind x.rule x.start x.fin v):=λt q=>by
  unfold oq;exact((((t.put q).put q).put q).put q).put q
 have zB:(oq X W.heap.size x.kind x.rule x.start x.fin v).ownsRow lo 71 2 v x.dN.length (pv x.dN):=gR ho λk e=>by
  have:=(dy ho e).1;exact JB (by omega)
 exact⟨s',x,v,P',Z',hx,rfl,(JB (by omega)).trans hg,ny zB (by omega),hF.other (put (ap.refl (· = W.heap.size) X) (.inl rfl)) (λmg f e=>(JB (λq=>by
  rw[q,y]at e;exact absurd (bL e) (by decide))).trans e) (λk e=>by
  have e:k=W.heap.size:=e;subst e;exact⟨.inr hw,wh⟩),put tX (.inr (aj _)),hz,hv⟩
theorem ztf{lo:Nat}(w WF W:ze)(bf g cap gq gs:Nat)(vs:List zj)(ao:Option Addr)(rc:Nat)(cv bv fv tv ev nv kv:zj)(rs:List bi)(d:bj)(L:Int)(B:ByteArray)(C:Bool)(S:Int)(n:Nat)(hr:fU lo w (.slice ao rs.length rc) rs)(hsm:pC rs)(hs:fV lo w cv bv fv tv ev nv kv d)(hB:iw rs d ⟨L,B,C,S,n⟩=true)
  (c:rk) (hc:c=⟨lo,w,WF,.slice ao rs.length rc,cv,bv,fv,tv,ev,nv,kv,d.width,rs,bf,g,cap,gq,gs,vs⟩) {P:Nat->Option Nat} {Z:Nat->Nat->Prop} (hF:dI c P Z W) (hg:W.heap[gs]?=zc (zd (eI L B C S n) 32 (0,0))):
  zk prog 38 #[zl (zc ⟨bf,0,zb⟩),zl (zc ⟨gs,0,zb⟩)] W λe W'=>SJ c Z W rs d ⟨L,B,C,S,n⟩ e W':=by
 subst hc;obtain⟨LP,hf,Vw,E3,mN,Ih,TB,-,LW,CV,CX⟩:=BI hB;dsimp only at mN Ih TB LW CV CX;have fP:prog.follows .mixedOrders=true:=by kernel_rfl
 obtain⟨st,jU⟩:∃st:Nat->Nat,zh (∀b,((st b:Nat):Int)=qW d ⟨L,B,C,S,n⟩ b):=⟨λb=>(qW d ⟨L,B,C,S,n⟩ b).toNat,λb=>by have:=JL hB b;dsimp only;omega⟩;obtain⟨nm,nL⟩:∃nm:Nat->Int,zh (∀b,nm b=qS d ⟨L,B,C,S,n⟩ b):=⟨_,λ_=>rfl⟩;have GW:zh (∀b,st b<d.base.length):=λb=>by have:=JL hB b;have:=jU.out b;omega
 have Kq:zh (((st n:Nat):Int)=S):=by
  show _=_;rw[jU.out];unfold qW;dsimp only;rw[show n-(n:Int).toNat=0 from by omega];rfl
 have SA:zh (∀b,n<=b->∀h:b<B.size,((st (b+1):Nat):Int)=qp d (st b) (B[b]'h).toNat):=λb h1 h2=>by
  rw[jU.out,zmL (s:=⟨L,B,C,S,n⟩) (by dsimp only;omega) (B[b]'h2).toNat (by dsimp only;simp[h2];rfl),<-jU.out]
  rfl
 have Kk:zh (∀b,-1<=nm b/\nm b<rs.length):=λb=>by rw[nL.out];exact YF hB b
 have Hns:zh (∀b,P9 d C (st b) b B.size=nm b):=λb=>by
  rw[nL.out];unfold P9 qS;dsimp only;rw[<-jU.out];rfl
 obtain⟨W0,ai⟩:∃W0,W.alloc (zd #[za .i64 0,za .i64 0,za .i64 0,za .i64 0,zi zb 0 0] 35)=W0:=⟨_,rfl⟩;have vU:zg W.heap.size W W0:=by rw[<-ai];exact aw
 have xW:W0.heap[W.heap.size]?=zc (zd #[za .i64 0,za .i64 0,za .i64 0,za .i64 0,zi zb 0 0] 35 (0,0)):=by rw[<-ai];exact aI _ _
 have fD:=(ah.1 hg).1;have kw:=(ah.1 xW).1;have LF:gs≠gq:=hF.ne;have hgw:gq<WF.heap.size:=hF.EH;have zwQ:gs<WF.heap.size:=hF.EI;have PX:WF.heap.size<=W.heap.size:=hF.tc.size;have HZ:zh (∀j k,Z j k->WF.heap.size<=k/\k<W.heap.size):=hF.nF;have HF0:=ay (hF.below vU);have Oa:zh (W0.heap[gs]?=zc (zd (eI L B C (st n) n) 32 (0,0))):=by
  show _=_;rw[Kq.out];exact ck hg vU
 have SF:=ay xW;have Hr:=ay hr;have Hs:=ay hs;have Hf:=ay hf;have HB:=ay hB;have Ss:=ay LP;have N9:=ay vU;clear hr hs hf hB LP hF hg xW Vw E3 vU
 go_enter func38,ntmps38
 go_wp2;clear ai
 go_loopw [] (λwr=>∃b:Nat,n<=b/\b<=B.size/\zh (ap (· = gs) W0 wr)/\zh (wr.heap[gs]?=zc (zd (eI L B C (st b) b) 32 (0,0)))/\zh (∀j,n<=j->j<b->nm j=-1))
  (λwr=>B.size+1-Rx gs wr)
 case atStart=>exact⟨n,aj _,by omega,ap.refl _ _,Oa,λj h1 h2=>by omega⟩
 case round=>
  obtain⟨b,iV,iU,HT,Hg,sR⟩:=hrel;obtain⟨V,hV⟩:∃V,V=wr:=⟨_,rfl⟩;subst hV;have HF:=ay (HF0.out.Wn Oa.out HT.out);have zq:=zqY bf gs (.slice ao rs.length rc) cv bv fv tv ev nv kv _ _ d L B C (st b) b V (Hs.out.below HF.out.bu) Hf.out (GW.out b) HF.out.box Hg.out;rw[Hns.out]at zq
  go_wp2_with fail
  refine zq.mono ?_;rintro e W1 ⟨rfl,ag⟩;have vA:=ay (HF.out.below ag);have Cj:=ay (ck Hg.out ag);have ly:=ay (HT.out.trans (.bR ag));have hsz:Rx gs V=b:=by rw[zmH Hg.out];omega
  have Hsz:=ay hsz;clear zq HF HT hsz;have zA3:WF.heap.size<=W1.heap.size:=vA.out.tc.size;have x1:=(ly.out.same W.heap.size kw (by show ¬W.heap.size=gs;omega)).trans SF.out;have ia:=(ah.1 x1).1;have Ks:zh (ap (λk=>k=gs\/k=gq\/∃j,Z j k) W W1):=(ap.bR N9.out).trans (ly.out.mono λk _ h=>.inl h)
  by_cases ky:nm b=-1
  ·have hne:(nm b != -1)=false:=by simp[ky]
   obtain⟨c0,c1,c2,c3,c4⟩:=ja Cj.out
   by_cases xA:b=B.size
   ·have hq:((b:Int)==(B.size:Int))=true:=by simp;omega
    have HN:zh (vG rs d ⟨L,B,C,S,n⟩ ⟨L,B,C,st b,b⟩ ⟨if C then 3 else 2,0,0,0,[]⟩):=.inr (.inr ⟨HB.out,λj h1 h2=>by
     rw[<-nL.out]
     by_cases e:j=b
     ·rw[e];exact ky
     ·exact sR.out j (by dsimp only at h1;omega) (by dsimp only at h2;omega),by rw[jU.out,xA],rfl⟩)
    have z4:=bX x1;have z5:∀o,W1.frozen? ⟨W.heap.size,o,zb⟩=false:=λo=>cT _ _ o _ _ x1
    have lz:zh (∀nq,SJ ⟨lo,w,WF,.slice ao rs.length rc,cv,bv,fv,tv,ev,nv,kv,d.width,rs,bf,g,cap,gq,gs,vs⟩ Z W rs d ⟨L,B,C,S,n⟩ (.returned (yV ⟨if C then 3 else 2,0,0,0,[]⟩ (zi zb 0 0))) (oq (W1.drewN nq) W.heap.size (if C then 3 else 2) 0 0 0 (zi zb 0 0))):=λnq=>zj8 (x:=⟨if C then 3 else 2,0,0,0,[]⟩) HN.out fD Cj.out (Nat.lt_succ_self _) ⟨rfl,.inl ⟨rfl,rfl⟩⟩ (Ks.out.trans (.bR (below_drewN (Below.refl _ _) nq))) (vA.out.below (below_drewN (Below.refl _ _) nq)) PX (λ_ _ h=>.inl h) (λj h=>by have:=(HZ.out j _ h).2;omega) (λ_ _ e=>by simp[Value.ownBlock]at e) x1
    have eV:=Jl 2;have Ui:=Jl 3;clear HN ky xA vA ly Ks x1 HZ;go_wp2
    go_quiet (fail)
    cases C
    ·have yG:=ay (lz.out nq);simp only[zZ,if_false]at yG;unfold oq at yG;clear lz;go_wp2;exact bh (v:=zf #[za .i64 2,za .i64 0,za .i64 0,za .i64 0,zi zb 0 0]) (by simp[results,results38,go_sem,z4]) rfl yG.out
    ·have yG:=ay (lz.out nq);simp only[if_true]at yG;unfold oq at yG;clear lz;go_wp2;exact bh (v:=zf #[za .i64 3,za .i64 0,za .i64 0,za .i64 0,zi zb 0 0]) (by simp[results,results38,go_sem,z4]) rfl yG.out
   ·have hq:((b:Int)==(B.size:Int))=false:=by simp;omega
    have hlt:b<B.size:=by omega
    have RW:zh (∀j,n<=j->j<b+1->nm j=-1):=λj h1 h2=>by
     by_cases e:j=b
     ·rw[e];exact ky
     ·exact sR.out j h1 (by omega)
    have af:(0:Int)<=(b:Int):=by omega
    have ae:(b:Int)<(B.size:Int):=by omega
    have vD:=ay (SA.out b iV hlt);have hc:(B[b]'hlt).toNat<256:=(B[b]'hlt).toNat_lt;clear ky xA sR;go_wp2
    go_quiet (fail)
    go_upto_region 7 with fail
    obtain⟨V1,uF⟩:∃V1,W1.drewN nq=V1:=⟨_,rfl⟩;have gG:zg W1.heap.size W1 V1:=by rw[<-uF];exact below_drewN (Below.refl _ _) nq
    rw[uF];have NX:=ay (vA.out.below gG);have Aq:=ay (ck Cj.out gG);have Zn:=ay (ly.out.trans (.bR gG));have hx:∀s:dB V1,(s.W.heap[bf]?=zc (zd (AW (.slice ao rs.length rc) cv d.width bv fv tv ev nv kv (zi (zc ⟨g,0,zb⟩) rs.length cap) (zi (zc ⟨gq,0,zb⟩) rs.length rs.length)) 128 (0,0)))/\s.W.heap[gs]?=zc (zd (eI L B C (st b) b) 32 (0,0)):=λs=>⟨ck NX.out.box s.h,ck Aq.out s.h⟩
    have k1:=λs:dB V1=>(show s.W.cell? ⟨bf,1,zb⟩=zc cv from bX (hx s).1 1)
    have k2:=λs:dB V1=>(show s.W.cell? ⟨bf,2,zb⟩=zc (za .i64 d.width) from bX (hx s).1 2)
    have k3:=λs:dB V1=>(show s.W.cell? ⟨bf,3,zb⟩=zc bv from bX (hx s).1 3)
    have k4:=λs:dB V1=>(show s.W.cell? ⟨bf,4,zb⟩=zc fv from bX (hx s).1 4)
    have k5:=λs:dB V1=>(show s.W.cell? ⟨bf,5,zb⟩=zc tv from bX (hx s).1 5)
    have k6:=λs:dB V1=>(show s.W.cell? ⟨bf,6,zb⟩=zc ev from bX (hx s).1 6)
    have k7:=λs:dB V1=>(show s.W.cell? ⟨bf,7,zb⟩=zc nv from bX (hx s).1 7)
    have k8:=λs:dB V1=>(show s.W.cell? ⟨bf,8,zb⟩=zc kv from bX (hx s).1 8)
    have l1:=λs:dB V1=>(show s.W.cell? ⟨gs,1,zb⟩=zc (.string B) from bX (hx s).2 1)
    have l3:=λs:dB V1=>(show s.W.cell? ⟨gs,3,zb⟩=zc (za .i64 (st b)) from bX (hx s).2 3)
    have l4:=λs:dB V1=>(show s.W.cell? ⟨gs,4,zb⟩=zc (za .i64 b) from bX (hx s).2 4)
    clear c0 c1 c2 c3 c4 uF hx vA Cj ly Ks;refine MZ [0,1,2,3,4,5,6,7,8,9,10,11,12,13,14,15,16,17] [18,19,20,21,22,23] 23 (λw'=>∃s:dB V1,w'=s.W) fP ⟨⟨V1.drew,(Below.refl _ _).drew⟩,rfl⟩ (by kernel_rfl) ?_;intro os bW;simp only[jQ,jR,jT,jS]at bW;subst bW
    change wpQuiet _ _ _ _ [_,_,_,_,_,_,_,_,_,_,_,_,_,_,_,_,_,_] _
    repeat (go_big_quiet_step (fail))
    refine wpQuiet_nil ?_;rintro w' ⟨⟨Wb,eX⟩,hw'⟩ r' bV;replace hw':w'=Wb:=hw';subst w';simp only[jQ,jR,jT,jS,D7]at bV;subst bV;clear k1 k2 k3 k4 k5 k6 k7 k8 l1 l3 l4;refine qj rfl (λK5 fX=>F7 (ops:=#[]) rfl (λ_ _ h=>h) ?_)
    change wpList _ _ _ [_] _ _
    go_wp2;rw[su];refine fX _ _ (λ_=>⟨⟨Wb,eX⟩,rfl⟩) ?_;clear fX K5;refine qj rfl (λK5 fX=>F7 (ops:=#[]) rfl (λ_ _ h=>h) ?_)
    change wpList _ _ _ [_] _ _
    go_wp2;rw[su];refine fX _ _ (λ_=>⟨⟨Wb,eX⟩,rfl⟩) ?_;clear fX K5;have cN:zg w.heap.size w Wb:=aq NX.out.bu NX.out.bu.size eX;have zxz:=zss cv bv fv tv ev nv kv d (st b) (B[b]'hlt).toNat Wb (Hs.out.below cN) Hf.out (GW.out b) hc;refine qj rfl (λK5 fX=>?_);refine DL 76 #[.tmp 38,.tmp 42,.tmp 52] #[39,3,3] (by rfl) #[zf #[cv,za .i64 d.width,bv,fv,tv,ev,nv,kv],za .i64 (st b),za .i64 ((B[b]'hlt).toNat:Int)] (by simp[Act.eval]) (λv w'=>v=za .i64 (st (b+1))/\zg Wb.heap.size Wb w') (zoT _ _) (zxz.mono (by
     rintro e w1 ⟨rfl,h2⟩;exact⟨_,rfl,by rw[vD.out],h2⟩)) ?_
    rintro v8 W8 ⟨rfl,eY⟩;have Li:zg V1.heap.size V1 W8:=aq eX eX.size eY;refine fX _ _ (λ_=>⟨⟨W8,Li⟩,rfl⟩) ?_;clear fX K5 zxz;refine qj rfl (λK5 fX=>F7 (ops:=#[]) rfl (λ_ _ h=>h) ?_)
    change wpList _ _ _ [_] _ _
    go_wp2;rw[su];refine fX _ _ (λ_=>⟨⟨W8,Li⟩,rfl⟩) ?_;clear fX K5;refine qj rfl (λK5 fX=>F7 (ops:=#[]) rfl (λ_ _ h=>h) ?_)
    change wpList _ _ _ [_] _ _
    go_wp2;rw[su];refine fX _ _ (λ_=>⟨⟨W8,Li⟩,rfl⟩) ?_;clear fX K5;have g8:=ck Aq.out Li;have g9:=dE W8 gs 3 _ _ (za .i64 (st (b+1))) g8;have g10:=dE (W8.setCell ⟨gs,3,zb⟩ (za .i64 (st (b+1)))) gs 4 _ _ (za .i64 ((b:Int)+1)) g9;obtain⟨c0,c1,c2,c3,c4⟩:=ja g8;have f3:=cT _ _ 3 _ _ g8;have f4:=cT _ _ 4 _ _ g8;have zyn:zh (ap (· = gs) W0 ((W8.setCell ⟨gs,3,zb⟩ (za .i64 (st (b+1)))).setCell ⟨gs,4,zb⟩ (za .i64 ((b:Int)+1)))):=((Zn.out.trans (.bR Li)).put (.inl rfl)).put (.inl rfl);have ZH:zh (((W8.setCell ⟨gs,3,zb⟩ (za .i64 (st (b+1)))).setCell ⟨gs,4,zb⟩ (za .i64 ((b:Int)+1))).heap[gs]?=zc (zd (eI L B C (st (b+1)) ((b+1:Nat):Int)) 32 (0,0))):=g10;have fO:IntKind.i64.wrap ((b:Int)+1)=(b:Int)+1:=by rw[IntKind.wrap_i64];omega
    clear g8 g9 g10 Zn Aq NX cN;refine Qx (by simp) (λ_ _ h=>h) ?_
    change wpList _ _ _ [_] _ _
    go_wp2;rw[vl];go_wp2
    go_roundw
    case rel=>exact⟨b+1,by omega,by omega,zyn,ZH,RW⟩
    case measure=>
     rw[zmH ZH.out,Hsz.out];omega
  ·obtain⟨i,hi⟩:∃i:Nat,nm b=i:=⟨(nm b).toNat,by have:=(Kk.out b).1;omega⟩;have jm:i<rs.length:=by have:=(Kk.out b).2;omega
   have hne:((i:Int) != -1)=true:=by simp
   have Hi:=ay hi;rw[hi];clear hi ky;have dK:zg w.heap.size w W1:=vA.out.bu;obtain⟨jD,xX,hv',Mb,wo⟩:=Hr.out;cases hv';obtain⟨rb,ro,rv,rd,Im,gD,kX,k0,k1,wu⟩:=wo.elem dK jm;subst Im;obtain⟨bao,bcp,rfl,xB,qG⟩:=wu;have Vp:Small rd.branches:=by have:=hsm.2 i jm;rw[gD.out]at this;exact this
   have fE:iK rd=true:=by
    have h1:=Ss.out;simp only[lu,de]at h1;exact iQ.1 h1.1.2 rd (by rw[<-gD.out];simp[List.getD,jm])
   have Fg:=fE;unfold iK gC at Fg;simp only[de,lx]at Fg;obtain⟨G,hG⟩:∃G:Nat,rd.di=G:=⟨rd.di.toNat,by omega⟩;have hlen:rd.branches.length<=100000:=by omega
   have hm:=zrw (c:=⟨lo,w,WF,zi (zc ⟨rb,ro,zb⟩) rs.length rc,cv,bv,fv,tv,ev,nv,kv,d.width,rs,bf,g,cap,gq,gs,vs⟩) rfl vA.out Hr.out bf gs i rfl rfl jm L B C (st b) b rd gD.out G hG fE (by omega) iU hlen Cj.out;have zwJ:=(ah.1 Cj.out).1;clear Fg k0 k1 qG wo vA
   go_wp2_with fail
   refine hm.mono ?_;rintro e W2 ⟨a,sp,v,P2,Z2,hst,hsp,rfl,ff,hF2,lg,aQ,uU⟩;obtain⟨so,sm,Jc,rfl⟩:∃so sm sc,v=.slice so sm sc:=by
    rcases ff.2 with ⟨e,_⟩|⟨g,c,_,e,_⟩
    ·exact⟨_,_,_,e⟩
    ·exact⟨_,_,_,e⟩
   obtain⟨W3,eN⟩:∃W3,W2.alloc (zd #[za .i64 1,za .i64 i,za .i64 a,za .i64 b,.slice so sm Jc] 35)=W3:=⟨_,rfl⟩;have aG:zg W2.heap.size W2 W3:=by rw[<-eN];exact aw
   have x3:W3.heap[W2.heap.size]?=zc (zd #[za .i64 1,za .i64 i,za .i64 a,za .i64 b,.slice so sm Jc] 35 (0,0)):=by rw[<-eN];exact aI _ _
   have zxf:¬(gs=gq\/∃j,Z j gs):=by
    rintro (e|⟨j,e⟩)
    ·exact LF e
    ·have:=(HZ.out j _ e).1;omega
   have Fc:¬(W.heap.size=gq\/∃j,Z j W.heap.size):=by
    rintro (e|⟨j,e⟩)
    ·omega
    ·have:=(HZ.out j _ e).2;omega
   have g2:=(lg.same gs zwJ zxf).trans Cj.out;have cV:=lg.size;have r2:=(lg.same W.heap.size ia Fc).trans x1;have zwB:=zm8 gs L B C (st b) b b iU W3 (ck g2 aG);obtain⟨c0,c1,c2,c3,c4⟩:=ja (ck g2 aG);have Aj:=ay eN;have zBd:=(ah.1 g2).1;have HN:zh (vG rs d ⟨L,B,C,S,n⟩ ⟨L,B.extract b B.size,C,0,0⟩ ⟨1,i,a,b,sp⟩):=.inr (.inl ⟨HB.out,b,by dsimp only;omega,iU,λj h1 h2=>by
     rw[<-nL.out];exact sR.out j (by dsimp only at h1;omega) h2,by rw[<-nL.out,Hi.out];omega,a,sp,by rw[<-nL.out,Hi.out,sM,gD.out];exact hst,by rw[<-nL.out,Hi.out,sM,gD.out];exact hsp,rfl,by rw[<-nL.out,Hi.out]⟩)
   clear eN hm hst hsp x1
   go_upto_region 4 with fail
   rw[Aj.out];clear Aj
   go_wp2_with fail
   refine zwB.mono ?_;rintro e W4 ⟨rfl,yh,g4⟩;have l9:=aG.size;have qc:=yh.size;have zAj:=(ah.1 x3).1;have x4:=(yh.same _ zAj (by show ¬W2.heap.size=gs;omega)).trans x3;have r4:=(yh.same W.heap.size (by omega) (by show ¬W.heap.size=gs;omega)).trans (ck r2 aG);have lM:W4.ownsRow W1.heap.size 71 2 (.slice so sm Jc) sp.length (pv sp):=gR (dQ ff aG) λk e=>yh.same k (by have:=(dy ff e);obtain⟨_,ax,z⟩:=this;have:=(ah.1 z).1;omega) (by have:=(dy ff e).1;show ¬k=gs;omega)
   have tF:ap (λk=>k=gs\/k=gq\/∃j,Z j k) W W4:=((Ks.out.trans (lg.mono λk _ h=>.inr h)).trans (.bR aG)).trans (yh.mono λk _ h=>.inl h);have yG:=ay (zj8 (x:=⟨1,i,a,b,sp⟩) HN.out fD g4 (lo:=W1.heap.size) ia lM tF ((hF2.below aG).Wn (ck g2 aG) yh) PX (λj k h=>(aQ j k h).imp id (λe=>by omega)) (λj h=>by
    rcases aQ j _ h with e|e
    ·exact Fc (.inr ⟨j,e⟩)
    ·omega) uU r4)
   unfold oq at yG;have z4:=bX r4;have z5:∀o,W4.frozen? ⟨W.heap.size,o,zb⟩=false:=λo=>cT _ _ o _ _ r4
   obtain⟨y0,y1,y2,y3,y4⟩:=ja x4;clear zwB HN ff lM lg yh tF g4 g2 x3 x4 r2 r4 c0 c1 c2 c3 c4 Ks Cj ly hF2 aQ uU HZ Fc zxf;go_wp2;exact bh (v:=zf #[za .i64 1,za .i64 i,za .i64 a,za .i64 b,.slice so sm Jc]) (by simp[results,results38,go_sem,z4]) rfl yG.out
end
theorem zno(g:Nat)(L:Int)(B:ByteArray)(C:Bool)(S N:Int)(w:ze)(hg:w.heap[g]?=zc (zd #[za .i64 L,.string B,.bool C,za .i64 S,za .i64 N] 32 (0,0))):
  zk prog 85 #[zl (zc ⟨g,0,zb⟩)] w λe w'=>e=.returned (.tuple #[])/\w'=w.setCell ⟨g,2,zb⟩ (.bool true):=by
 obtain⟨c0,c1,c2,c3,c4⟩:=ja hg;have f2:=cT _ _ 2 _ _ hg;clear hg
 go_enter func85,ntmps85
 go_wp2
 go_end0
 exact⟨rfl,rfl⟩
theorem znm(g:Nat)(L:Int)(B:ByteArray)(S N:Int)(ch:ByteArray)(w:ze)(hg:w.heap[g]?=zc (zd #[za .i64 L,.string B,.bool true,za .i64 S,za .i64 N] 32 (0,0))):
  zk prog 84 #[zl (zc ⟨g,0,zb⟩),.string ch] w λe w'=>e=.returned (za .i64 2)/\zg w.heap.size w w':=by
 obtain⟨c0,c1,c2,c3,c4⟩:=ja hg;clear hg
 go_enter func84,ntmps84
 go_wp2;go_ret;exact⟨rfl,Below.refl _ _⟩
theorem znl(g:Nat)(L:Int)(B:ByteArray)(S N:Int)(ch:ByteArray)(w:ze)(hg:w.heap[g]?=zc (zd #[za .i64 L,.string B,.bool false,za .i64 S,za .i64 N] 32 (0,0)))(hch:ch.size<=1048576)(hB:B.size<=1048576)(hL:L<(B.size:Int)+ch.size):
  zk prog 84 #[zl (zc ⟨g,0,zb⟩),.string ch] w λe w'=>e=.returned (za .i64 3)/\zg w.heap.size w w':=by
 obtain⟨c0,c1,c2,c3,c4⟩:=ja hg;clear hg;have d1:decide ((B.size:Int)+ch.size > L)=true:=zzh hL
 go_enter func84,ntmps84
 go_wp2
 go_quiet (fail)
 go_wp2;go_ret;exact⟨rfl,below_drewN (Below.refl _ _) _⟩
theorem znk(g:Nat)(L:Int)(B:ByteArray)(S N:Int)(ch:ByteArray)(w:ze)(hg:w.heap[g]?=zc (zd #[za .i64 L,.string B,.bool false,za .i64 S,za .i64 N] 32 (0,0)))(hch:ch.size<=1048576)(hB:B.size<=1048576)(hL:¬L<(B.size:Int)+ch.size):
  zk prog 84 #[zl (zc ⟨g,0,zb⟩),.string ch] w λe w'=>e=.returned (za .i64 0)/\∃n,w'=(w.drewN n).setCell ⟨g,1,zb⟩ (.string (B++ch)):=by
 obtain⟨c0,c1,c2,c3,c4⟩:=ja hg;have f1:=cT _ _ 1 _ _ hg;clear hg;have d1:decide ((B.size:Int)+ch.size > L)=false:=zzg hL
 go_enter func84,ntmps84
 go_wp2
 go_quiet (fail)
 go_wp2;go_ret;exact⟨rfl,_,rfl⟩
section
variable {lo:Nat}{w w':ze}{v:zj}{rs:List (Int×ByteArray)}
def gK:Int×ByteArray:=(0,⟨#[]⟩)
def Q9(lo:Nat)(w:ze)(ao:Option Addr)(rs:List (Int×ByteArray)):Prop:=
 0<rs.length->∃b o,ao=zc ⟨b,o,zb⟩/\lo<=b/\b<w.heap.size/\
  ∀i,i<rs.length->w.cell? ⟨b,o+i*2,zb⟩=zc (za .i64 (rs.getD i gK).1)/\w.cell? ⟨b,o+i*2+1,zb⟩=zc (.string (rs.getD i gK).2)
def jN(lo:Nat)(w:ze)(v:zj)(rs:List (Int×ByteArray)):Prop:=∃ao cap,v=.slice ao rs.length cap/\rs.length<=9223372036854775807/\Q9 lo w ao rs
theorem jN.same(h:jN lo w v rs)(hb:Same lo w w'):jN lo w' v rs:=by
 obtain⟨ao,cap,rfl,hm,h⟩:=h;refine⟨ao,cap,rfl,hm,λh0=>?_⟩;obtain⟨b,o,rfl,fY,hlt,hc⟩:=h h0;refine⟨b,o,rfl,fY,bA hlt hb.size,λi hi=>?_⟩;obtain⟨c0,c1⟩:=hc i hi;exact⟨(hb.cell (by exact fY) (by exact hlt)).trans c0,(hb.cell (by exact fY) (by exact hlt)).trans c1⟩
theorem jN.below(h:jN lo w v rs)(hb:zg w.heap.size w w'):jN lo w' v rs:=h.same (.bR hb)
theorem jN.mono{cE:Nat}(h:jN lo w v rs)(hl:cE<=lo):jN cE w v rs:=by
 obtain⟨ao,cap,rfl,hm,h⟩:=h;refine⟨ao,cap,rfl,hm,λh0=>?_⟩;obtain⟨b,o,rfl,fY,r⟩:=h h0;exact⟨b,o,rfl,aW hl fY,r⟩
theorem Q9.elem{wr:ze}{ao:Option Addr}(h:Q9 lo w ao rs)(hb:zg w.heap.size w wr){k:Nat}(hk:k<rs.length):
  ∃(b o:Nat) (x:Int) (t:ByteArray),ao=zc ⟨b,o,zb⟩/\zh (rs.getD k gK=(x,t))/\b<w.heap.size/\wr.cell? ⟨b,o+k*2,zb⟩=zc (za .i64 x)/\wr.cell? ⟨b,o+k*2+1,zb⟩=zc (.string t):=by
 obtain⟨b,o,rfl,_,hlt,hc⟩:=h (by omega);obtain⟨c0,c1⟩:=hc k hk;exact⟨b,o,_,_,rfl,rfl,hlt,(hb.cell (by exact hlt)).trans c0,(hb.cell (by exact hlt)).trans c1⟩
def Ry(t:ByteArray)(left:Int):Int:=if left-t.size<0 then -1 else left-t.size
theorem zqn(x:Int)(t:ByteArray)(left:Int)(w:ze)(h0:0<=left)(h1:left<=1048576)(h2:t.size<=9223372036854775807):
  zk prog 46 #[zf #[za .i64 x,.string t],za .i64 left] w λe w'=>e=.returned (za .i64 (Ry t left))/\zg w.heap.size w w':=by
 unfold Ry
 by_cases h:left-t.size<0
 ·rw[aC h]
  go_enter func46,ntmps46
  go_wp2;go_ret;exact⟨rfl,aw⟩
 ·rw[ak h]
  go_enter func46,ntmps46
  go_wp2;go_ret;exact⟨rfl,aw⟩
theorem Tryz.zAo:(prog.info? 92).map (λi=>(i.zero,i.size,i.bytes))=zc (zc (zf #[za .i64 0,.string ⟨#[]⟩]),2,24):=by kernel_rfl
theorem ztE(x:Int)(t:ByteArray)(w:ze):
  zk prog 51 #[zf #[za .i64 x,.string t]] w λe w'=>e=.returned (zf #[za .i64 x,.string t])/\zg w.heap.size w w':=by
 go_enter func51,ntmps51
 go_wp2;exact bh (v:=zf #[za .i64 x,.string t]) (by simp[results,results51,go_sem]) rfl ⟨rfl,((aw).alloc (by simp) _).alloc (by simp;omega) _⟩
theorem zsn(v:zj)(rs:List (Int×ByteArray))(w:ze)(hs:jN lo w v rs)(hn:rs.length<=1048576):
  zk prog 19 #[v] w λe w'=>∃g,e=.returned (zi (zc ⟨g,0,zb⟩) rs.length rs.length)/\w.heap.size<=g/\(∃xs,w'.ownsRow w.heap.size 92 2 (zi (zc ⟨g,0,zb⟩) rs.length rs.length) rs.length xs)/\jN w.heap.size w' (zi (zc ⟨g,0,zb⟩) rs.length rs.length) rs/\zg w.heap.size w w':=by
 obtain⟨ao,cap,rfl,hm,hc⟩:=hs;obtain⟨i0,hi,bI,aO,aQ⟩:=info_parts Tryz.zAo
 go_enter func19,ntmps19
 go_wp2_with (refine wpList_make_full _ rfl _ _ 54 rfl w.heap.size 92 i0 _ 2 underlying54 hi bI aO _ _ _ _ rs.length rfl rfl rfl rfl (by rw[aQ];omega) (by unfold maxLen;omega) (aj _) ?_;intro w1 aB ez)
 have fO:zg w.heap.size w w1:=(Below.refl _ _).grown ez (aj _) (by intro k h;cases h);clear ez
 go_loopw [4] (λi wr=>∃k:Nat,k<=rs.length/\i=za .i64 k/\zg w.heap.size w wr/\∃xs:List zj,wr.ownsRow w.heap.size 92 2 (zi (zc ⟨w.heap.size,0,zb⟩) rs.length rs.length) rs.length xs/\
   mD xs 2 k (λj=>[za .i64 (rs.getD j gK).1,.string (rs.getD j gK).2]))
  (λi _=>rs.length-(intOf i).toNat)
 case atStart=>exact⟨0,aR _,rfl,fO,_,aB,λj hj=>absurd hj (cR _)⟩
 case round=>
  obtain⟨k,hk,rfl,hb,xs,aB,eH⟩:=hrel
  by_cases hlt:k<rs.length
  ·obtain⟨b,o,x,t,rfl,Hn,aZ,c0,c1⟩:=hc.elem hb hlt
   go_wp2_with (go_at_call 51;refine(ztE _ _ _).mono ?_;rintro e w2 ⟨rfl,ae⟩;have j7:=dQ aB ae;obtain⟨u0,u1,d0,d1,f0,f1⟩:=DG j7 hlt)
   go_roundw
   case rel=>exact⟨k+1,by omega,by go_num,((aq hb hb.size ae).setCell (aj _) _).setCell (aj _) _,_,((j7.stored _ _).1.stored _ _).1,Xu eH (by have:=j7.1;omega) (by rw[Hn.out])⟩
   case measure=>simp[intOf];omega
  ·go_wp2;have bK:k=rs.length:=by omega
   refine bh (v:=zi (zc ⟨w.heap.size,0,zb⟩) rs.length rs.length) (by simp[results,results19,go_sem]) rfl ⟨_,rfl,aj _,⟨_,aB⟩,⟨_,_,rfl,hm,λ_=>⟨w.heap.size,0,rfl,aj _,pE aB,λi hi=>?_⟩⟩,hb⟩;rw[bK]at eH;have e0:=kL aB eH (c:=0) hi (by omega);have e1:=kL aB eH (c:=1) hi (by omega);simp only[uf,jw]at e0 e1 ⊢;exact⟨e0,e1⟩
theorem zsZ(x:Int)(t:ByteArray)(w:ze):
  zk prog 57 #[zf #[za .i64 x,.string t],zf #[za .i64 x,.string t]] w λe w'=>e=.returned (.bool true)/\zg w.heap.size w w':=by
 have e1:(x != x)=false:=by simp
 go_enter func57,ntmps57
 go_wp2;go_ret;exact⟨rfl,(aw).alloc (by simp) _⟩
theorem zqW{l1 l2:Nat}(v v2:zj)(rs:List (Int×ByteArray))(w:ze)(hs:jN l1 w v rs)(cV:jN l2 w v2 rs):
  zk prog 22 #[v,v2] w λe w'=>e=.returned (.bool true)/\zg w.heap.size w w':=by
 obtain⟨ao,cap,rfl,hm,hc⟩:=hs;obtain⟨iD,fB,rfl,_,eW⟩:=cV
 go_enter func22,ntmps22
 go_wp2
 go_loopw [5] (λi wr=>∃k:Nat,k<=rs.length/\i=za .i64 k/\zg w.heap.size w wr)
  (λi _=>rs.length-(intOf i).toNat)
 case atStart=>exact⟨0,aR _,rfl,Below.refl _ _⟩
 case round=>
  obtain⟨k,hk,rfl,hb⟩:=hrel
  by_cases hlt:k<rs.length
  ·obtain⟨b,o,lo,hi,rfl,Hn,aZ,c0,c1⟩:=hc.elem hb hlt;obtain⟨b2,o2,lo2,uM,rfl,fJ,jl,d0,d1⟩:=eW.elem hb hlt;have qI:=Hn.out.symm.trans fJ.out;simp only[Prod.mk.injEq]at qI;obtain⟨rfl,rfl⟩:=qI;have aD:b<wr.heap.size:=bA aZ hb.size;have iE:b2<wr.heap.size:=bA jl hb.size;have da:(0:Int)<=(k:Int):=by omega
   have cO:(k:Int)<(rs.length:Int):=by omega
   go_wp2
   go_region_held3 (λw'=>w'.cell? ⟨b,o+k*2,zb⟩=zc (za .i64 lo)/\w'.cell? ⟨b,o+k*2+1,zb⟩=zc (.string hi)/\w'.cell? ⟨b2,o2+k*2,zb⟩=zc (za .i64 lo)/\w'.cell? ⟨b2,o2+k*2+1,zb⟩=zc (.string hi)) ((first|go_keep|exact⟨(hcc _ _ aD).trans c0,(hcc _ _ aD).trans c1,(hcc _ _ iE).trans d0,(hcc _ _ iE).trans d1⟩)) ((go_at_call 57;refine(zsZ _ _ _).mono ?_;rintro e w2 ⟨rfl,ae⟩;obtain⟨hcc,_⟩:=uc ae))
   go_wp2
   go_roundw
   case rel=>exact⟨k+1,by omega,by go_num,aq hb.drew hb.size ae⟩
   case measure=>simp[intOf];omega
  ·go_wp2;go_ret;exact⟨rfl,hb⟩
theorem zsl(v:zj)(rs:List (Int×ByteArray))(left:Int)(w:ze)(hs:jN lo w v rs)(h0:0<=left)(h1:left<=1048576)(ht:∀i,i<rs.length->(rs.getD i gK).2.size<=9223372036854775807):
  zk prog 17 #[v,za .i64 left] w λe w'=>∃l:Int,e=.returned (za .i64 l)/\l<=1048576/\(0<=l->rs.length<=1048576/\∀i,i<rs.length->(rs.getD i gK).2.size<=1048576)/\zg w.heap.size w w':=by
 obtain⟨ao,cap,rfl,hm,hc⟩:=hs
 by_cases hle:left-rs.length<0
 ·go_enter func17,ntmps17
  go_wp2;go_ret;exact⟨-1,rfl,by omega,λh=>by omega,Below.refl _ _⟩
 ·have Ht:zh (∀i,i<rs.length->(rs.getD i gK).2.size<=9223372036854775807):=ht;have Hc:zh (Q9 lo w ao rs):=hc;clear ht hc
  go_enter func17,ntmps17
  go_wp2
  go_loopw [1,5] (λlv iv wr=>∃(k:Nat) (lf:Int),k<=rs.length/\iv=za .i64 k/\lv=za .i64 lf/\0<=lf/\lf<=1048576/\zh (∀i,i<k->(rs.getD i gK).2.size<=1048576)/\zg w.heap.size w wr)
   (λ_ iv _=>rs.length-(intOf iv).toNat)
  case atStart=>exact⟨0,left-rs.length,aR _,rfl,rfl,by omega,by omega,λi hi=>absurd hi (cR _),Below.refl _ _⟩
  case round=>
   obtain⟨k,lf,hk,rfl,rfl,zo,Um,HK,hb⟩:=hrel
   by_cases hlt:k<rs.length
   ·obtain⟨b,o,x,t,rfl,Hn,aZ,c0,c1⟩:=Hc.out.elem hb hlt;have pw:t.size<=9223372036854775807:=by have:=Ht.out k hlt;rw[Hn.out]at this;exact this
    have da:(0:Int)<=(k:Int):=by omega
    have cO:(k:Int)<(rs.length:Int):=by omega
    by_cases ky:lf-t.size<0
    ·have hz:=zqn x t lf wr zo Um pw;unfold Ry at hz;rw[aC ky]at hz
     go_wp2_with (go_at_call 46;refine hz.mono ?_;rintro e w2 ⟨rfl,ae⟩)
     go_ret
     exact⟨-1,rfl,by omega,λh=>by omega,aq hb hb.size ae⟩
    ·have hz:=zqn x t lf wr zo Um pw;unfold Ry at hz;rw[ak ky]at hz;have Ee:zh (∀i,i<k+1->(rs.getD i gK).2.size<=1048576):=λi hi=>by
      by_cases e:i=k
      ·subst e;rw[Hn.out];dsimp only;omega
      ·exact HK.out i (by omega)
     have hd:decide (lf-(t.size:Int)<0)=false:=by simp;omega
     obtain⟨l2,eZ⟩:∃l2:Int,lf-(t.size:Int)=l2:=⟨_,rfl⟩;rw[eZ]at hz hd;have Dd:0<=l2:=by omega
     have PF:l2<=1048576:=by omega
     clear HK ky eZ
     go_wp2_with (go_at_call 46;refine hz.mono ?_;rintro e w2 ⟨rfl,ae⟩)
     go_roundw
     case rel=>exact⟨k+1,l2,by omega,by go_num,rfl,Dd,PF,Ee,aq hb hb.size ae⟩
     case measure=>simp[intOf];omega
   ·have bK:k=rs.length:=by omega
    have Ee:zh (∀i,i<rs.length->(rs.getD i gK).2.size<=1048576):=λi hi=>HK.out i (by omega)
    have eT:rs.length<=1048576:=by omega
    clear HK;go_wp2;go_ret;exact⟨lf,rfl,Um,λ_=>⟨eT,Ee.out⟩,hb⟩
end
section
variable {c:rk}{Z:Nat -> Nat -> Prop}{W X:ze}{rs:List bi}{d:bj}{s s':cK}{op:Int×ByteArray}{P:Nat -> Option Nat}
def oU(rs:List bi)(d:bj)(s:cK)(op:Int×ByteArray)(s':cK)(x:cD):Prop:=
 (op.1=1/\s'=lq s op.2/\x=if qq s op.2=0 then ⟨4,0,0,0,[]⟩ else ⟨5,qq s op.2,0,0,[]⟩)\/(op.1=2/\vG rs d s s' x)\/(op.1=3/\s'=tV s/\x=⟨6,0,0,0,[]⟩)
def Eo(c:rk)(Z:Nat->Nat->Prop)(W:ze)(rs:List bi)(d:bj)(s:cK)(op:Int×ByteArray)(e:Ending)(W':ze):Prop:=
 ∃(s':cK) (x:cD) (v:zj) (P':Nat->Option Nat) (Z':Nat->Nat->Prop),oU rs d s op s' x/\e=.returned (yV x v)/\W'.heap[c.gs]?=zc (zd (eI s'.L s'.B s'.C s'.S s'.N) 32 (0,0))/\W'.ownsRow W.heap.size 71 2 v x.dN.length (pv x.dN)/\dI c P' Z' W'/\ap (λk=>k=c.gs\/k=c.gq\/∃j,Z j k) W W'/\(∀j k,Z' j k->Z j k\/W.heap.size<=k)/\∀j k,v.ownBlock=zc k->¬Z' j k
theorem zmB{Z':Nat->Nat->Prop}{P':Nat->Option Nat}{x:cD}{v:zj}(hx:oU rs d s op s' x)(hl:c.gs<W.heap.size)(hg:X.heap[c.gs]?=zc (zd (eI s'.L s'.B s'.C s'.S s'.N) 32 (0,0))){lo:Nat}(jZ:W.heap.size<lo)(ho:X.ownsRow lo 71 2 v x.dN.length (pv x.dN))(tX:ap (λk=>k=c.gs\/k=c.gq\/∃j,Z j k) W X)
  (hF:dI c P' Z' X) (hw:c.WF.heap.size<=W.heap.size) (hz:∀j k,Z' j k->Z j k\/W.heap.size<=k) (wh:∀j,¬Z' j W.heap.size) (hv:∀j k,v.ownBlock=zc k->¬Z' j k) {cc:Array zj} (y:X.heap[W.heap.size]?=zc (zd cc 35 (0,0))):
  Eo c Z W rs d s op (.returned (yV x v)) (oq X W.heap.size x.kind x.rule x.start x.fin v):=by
 have put:∀{S:Nat->Prop} {U:ze},ap S U X->S W.heap.size\/U.heap.size<=W.heap.size->ap S U (oq X W.heap.size x.kind x.rule x.start x.fin v):=λt q=>by
  unfold oq;exact((((t.put q).put q).put q).put q).put q
 have zB:(oq X W.heap.size x.kind x.rule x.start x.fin v).ownsRow lo 71 2 v x.dN.length (pv x.dN):=gR ho λk e=>by
  have:=(dy ho e).1;exact JB (by omega)
 exact⟨s',x,v,P',Z',hx,rfl,(JB (by omega)).trans hg,ny zB (by omega),hF.other (put (ap.refl (· = W.heap.size) X) (.inl rfl)) (λmg f e=>(JB (λq=>by
  rw[q,y]at e;exact absurd (bL e) (by decide))).trans e) (λk e=>by
  have e:k=W.heap.size:=e;subst e;exact⟨.inr hw,wh⟩),put tX (.inr (aj _)),hz,hv⟩
theorem zjq(i j:Int):prog.built 35 [(0,za .i64 i),(1,za .i64 j)]=zc #[za .i64 i,za .i64 j,za .i64 0,za .i64 0,zi zb 0 0]:=by kernel_rfl
theorem zh2{W0:ze}{k r:Int}(hF:dI c P Z W)(ai:W0=W.alloc (zd #[za .i64 0,za .i64 0,za .i64 0,za .i64 0,zi zb 0 0] 35)){cs:Array zj}(Bh:W.heap[c.gs]?=zc (zd cs 32 (0,0)))(tc:ap (· = c.gs) W0 X)(hg:X.heap[c.gs]?=zc (zd (eI s'.L s'.B s'.C s'.S s'.N) 32 (0,0)))(hx:oU rs d s op s' ⟨k,r,0,0,[]⟩):
  (∀o,X.cell? ⟨W.heap.size,o,zb⟩=(#[za .i64 0,za .i64 0,za .i64 0,za .i64 0,zi zb 0 0]:Array zj)[o]?)/\(∀o,X.frozen? ⟨W.heap.size,o,zb⟩=false)/\Eo c Z W rs d s op (.returned (yV ⟨k,r,0,0,[]⟩ (zi zb 0 0))) (oq X W.heap.size k r 0 0 (zi zb 0 0)):=by
 have hb:zg W.heap.size W W0:=by rw[ai];exact aw
 have x0:W0.heap[W.heap.size]?=zc (zd #[za .i64 0,za .i64 0,za .i64 0,za .i64 0,zi zb 0 0] 35 (0,0)):=by rw[ai];exact aI _ _
 have fD:=hF.EI;have hw:=hF.tc.size;have x1:=(tc.same W.heap.size (ah.1 x0).1 (by show ¬W.heap.size=c.gs;omega)).trans x0;refine⟨λo=>bX x1 o,λo=>cT _ _ o _ _ x1,zmB (x:=⟨k,r,0,0,[]⟩) hx (by omega) hg (Nat.lt_succ_self _) ⟨rfl,.inl ⟨rfl,rfl⟩⟩ ((ap.bR hb).trans (tc.mono λk _ e=>.inl e)) ((hF.below hb).Wn (ck Bh hb) tc) hw (λ_ _ h=>.inl h) (λj h=>by have:=(hF.nF j _ h).2;omega) (λ_ _ e=>by simp[Value.ownBlock]at e) x1⟩
theorem ziU(rs:List bi)(d:bj)(L:Int)(B:ByteArray)(C:Bool)(S N:Int)(t:ByteArray)(hF:dI c P Z W)(gs:Nat)(iJ:c.gs=gs)(hs:fk ⟨L,B,C,S,N⟩=true)(hg:W.heap[gs]?=zc (zd (eI L B C S N) 32 (0,0))):
  zk prog 56 #[zl (zc ⟨gs,0,zb⟩),.string t] W λe W'=>Eo c Z W rs d ⟨L,B,C,S,N⟩ (3,t) e W':=by
 subst iJ;obtain⟨W0,ai⟩:∃W0,W.alloc (zd #[za .i64 0,za .i64 0,za .i64 0,za .i64 0,zi zb 0 0] 35)=W0:=⟨_,rfl⟩;have hb:zg W.heap.size W W0:=by rw[<-ai];exact aw
 have g0:=ck hg hb;have cf:=zno c.gs L B C S N W0 g0;have HP:=ay (λX=>zh2 (X:=X) (rs:=rs) (d:=d) (s:=⟨L,B,C,S,N⟩) (s':=⟨L,B,true,S,N⟩) (op:=(3,t)) (k:=6) (r:=0) hF ai.symm hg);have HR:zh (oU rs d ⟨L,B,C,S,N⟩ (3,t) ⟨L,B,true,S,N⟩ ⟨6,0,0,0,[]⟩):=.inr (.inr ⟨rfl,by simp[tV,hs],rfl⟩);have eV:=Jl 6;have G0:=ay g0;clear hF hg g0 hb hs
 go_enter func56,ntmps56
 go_wp2_with fail
 refine cf.mono ?_;rintro e W1 ⟨rfl,cm⟩;obtain⟨z4,z5,hE⟩:=HP.out W1 (by rw[cm];exact(ap.refl _ _).put (.inl rfl)) (by rw[cm];exact dE _ _ _ _ _ _ G0.out) HR.out;have HF:=ay hE;unfold oq at HF;clear cf ai HP HR G0 cm hE;go_wp2;exact bh (v:=zf #[za .i64 6,za .i64 0,za .i64 0,za .i64 0,zi zb 0 0]) (by simp[results,results56,go_sem,z4]) rfl HF.out
theorem zlw(rs:List bi)(d:bj)(L:Int)(B:ByteArray)(C:Bool)(S N:Int)(t:ByteArray)(hF:dI c P Z W)(gs:Nat)(iJ:c.gs=gs)(hs:fk ⟨L,B,C,S,N⟩=true)(ht:t.size<=1048576)(hg:W.heap[gs]?=zc (zd (eI L B C S N) 32 (0,0))):
  zk prog 54 #[zl (zc ⟨gs,0,zb⟩),.string t] W λe W'=>Eo c Z W rs d ⟨L,B,C,S,N⟩ (1,t) e W':=by
 subst iJ;obtain⟨W0,ai⟩:∃W0,W.alloc (zd #[za .i64 0,za .i64 0,za .i64 0,za .i64 0,zi zb 0 0] 35)=W0:=⟨_,rfl⟩;have hb:zg W.heap.size W W0:=by rw[<-ai];exact aw
 have g0:=ck hg hb;have hB:B.size<=1048576:=by
  have h:=hs;simp only[fk,de,lx,zR]at h;omega
 have cf:zk prog 84 #[zl (zc ⟨c.gs,0,zb⟩),.string t] W0 λe W1=>e=.returned (za .i64 (qq ⟨L,B,C,S,N⟩ t))/\ap (· = c.gs) W0 W1/\W1.heap[c.gs]?=zc (zd (eI (lq ⟨L,B,C,S,N⟩ t).L (lq ⟨L,B,C,S,N⟩ t).B (lq ⟨L,B,C,S,N⟩ t).C (lq ⟨L,B,C,S,N⟩ t).S (lq ⟨L,B,C,S,N⟩ t).N) 32 (0,0)):=by
  cases C with
  |true=>
   refine(znm c.gs L B S N t W0 g0).mono ?_;rintro e W1 ⟨rfl,ag⟩;simp only[lq,qq,hs,if_true];exact⟨trivial,.bR ag,ck g0 ag⟩
  |false=>
   by_cases hL:L<(B.size:Int)+t.size
   ·refine(znl c.gs L B S N t W0 g0 ht hB hL).mono ?_;rintro e W1 ⟨rfl,ag⟩;simp only[lq,qq,hs,hL,if_true,zZ,if_false];exact⟨trivial,.bR ag,ck g0 ag⟩
   ·refine(znk c.gs L B S N t W0 g0 ht hB hL).mono ?_;rintro e W1 ⟨rfl,n,rfl⟩;simp only[lq,qq,hs,hL,if_true,zZ,if_false];exact⟨trivial,(ap.bR (below_drewN (Below.refl _ _) n)).put (.inl rfl),dE _ _ _ _ _ _ g0⟩
 have HP:=ay (λ(X:ze) (k r:Int)=>zh2 (X:=X) (rs:=rs) (d:=d) (s:=⟨L,B,C,S,N⟩) (s':=lq ⟨L,B,C,S,N⟩ t) (op:=(1,t)) (k:=k) (r:=r) hF ai.symm hg);have HR:zh (oU rs d ⟨L,B,C,S,N⟩ (1,t) (lq ⟨L,B,C,S,N⟩ t) (if qq ⟨L,B,C,S,N⟩ t=0 then ⟨4,0,0,0,[]⟩ else ⟨5,qq ⟨L,B,C,S,N⟩ t,0,0,[]⟩)):=.inl ⟨rfl,rfl,rfl⟩;have eV:=Jl 4;generalize qq ⟨L,B,C,S,N⟩ t=fc at *;have zzv:=zjq 5 fc;clear hF hg g0 hb hs
 go_enter func54,ntmps54
 go_wp2_with fail
 refine cf.mono ?_;rintro e W1 ⟨rfl,tc,g1⟩
 by_cases h0:fc=0
 ·have hne:(fc != 0)=false:=by simp[h0]
  have hr:=HR.out;rw[aC h0]at hr;obtain⟨z4,z5,hE⟩:=HP.out W1 4 0 tc g1 hr;have HF:=ay hE;unfold oq at HF;clear cf ai HP HR hE hr tc g1 zzv h0;go_wp2;exact bh (v:=zf #[za .i64 4,za .i64 0,za .i64 0,za .i64 0,zi zb 0 0]) (by simp[results,results54,go_sem,z4]) rfl HF.out
 ·have hne:(fc != 0)=true:=by simp[h0]
  have hr:=HR.out;rw[ak h0]at hr;obtain⟨z4,z5,hE⟩:=HP.out W1 5 fc tc g1 hr;have HF:=ay hE;unfold oq at HF;clear cf ai HP HR hE hr tc g1 eV h0;go_wp2;exact bh (v:=zf #[za .i64 5,za .i64 fc,za .i64 0,za .i64 0,zi zb 0 0]) (by simp[results,results54,go_sem,z4]) rfl HF.out
end
section
variable {lo:Nat}
theorem zlx(w WF W:ze)(bf g cap gq gs:Nat)(vs:List zj)(ao:Option Addr)(rc:Nat)(cv bv fv tv ev nv kv:zj)(rs:List bi)(d:bj)(L:Int)(B:ByteArray)(C:Bool)(S:Int)(n:Nat)(t:ByteArray)(hr:fU lo w (.slice ao rs.length rc) rs)(hsm:pC rs)(hs:fV lo w cv bv fv tv ev nv kv d)(hB:iw rs d ⟨L,B,C,S,n⟩=true)
  (c:rk) (hc:c=⟨lo,w,WF,.slice ao rs.length rc,cv,bv,fv,tv,ev,nv,kv,d.width,rs,bf,g,cap,gq,gs,vs⟩) {P:Nat->Option Nat} {Z:Nat->Nat->Prop} (hF:dI c P Z W) (hg:W.heap[gs]?=zc (zd (eI L B C S n) 32 (0,0))):
  zk prog 55 #[zl (zc ⟨bf,0,zb⟩),zl (zc ⟨gs,0,zb⟩),.string t] W λe W'=>Eo c Z W rs d ⟨L,B,C,S,n⟩ (2,t) e W':=by
 obtain⟨W0,ai⟩:∃W0,W.alloc (zd #[za .i64 0,za .i64 0,za .i64 0,za .i64 0,zi zb 0 0] 35)=W0:=⟨_,rfl⟩;have hb:zg W.heap.size W W0:=by rw[<-ai];exact aw
 have x0:W0.heap[W.heap.size]?=zc (zd #[za .i64 0,za .i64 0,za .i64 0,za .i64 0,zi zb 0 0] 35 (0,0)):=by rw[<-ai];exact aI _ _
 have bI:W0.heap.size=W.heap.size+1:=by rw[<-ai];simp
 have hn:=ztf w WF W0 bf g cap gq gs vs ao rc cv bv fv tv ev nv kv rs d L B C S n hr hsm hs hB c hc (hF.below hb) (ck hg hb);have iJ:c.gs=gs:=by rw[hc]
 have LF:c.gq=gq:=by rw[hc]
 have HF:=ay hF;have Hb:=ay hb;have Hx:=ay x0;clear hc hr hs hB hF hg hb x0
 go_enter func55,ntmps55
 go_wp2_with fail
 refine hn.mono ?_;rintro e W1 ⟨s',x,v,P',Z',hx,rfl,g1,lL,EL,vg,aO,Fs⟩;have uX:=HF.out.nF;have fD:=HF.out.EI;have IU:=HF.out.EH;have hw:=HF.out.tc.size;have Fc:¬(W.heap.size=c.gs\/W.heap.size=c.gq\/∃j,Z j W.heap.size):=by
  rintro (e|e|⟨j,e⟩)
  ·omega
  ·omega
  ·have:=(uX j _ e).2;omega
 have x1:=(vg.same W.heap.size (by omega) Fc).trans Hx.out;obtain⟨so,sm,sc,rfl⟩:∃so sm sc,v=.slice so sm sc:=by
  rcases lL.2 with ⟨e,_⟩|⟨g,c,_,e,_⟩
  ·exact⟨_,_,_,e⟩
  ·exact⟨_,_,_,e⟩
 obtain⟨k',r',a',e',sp⟩:=x;have HE:=ay (zmB (rs:=rs) (d:=d) (s:=⟨L,B,C,S,n⟩) (op:=(2,t)) (.inr (.inl ⟨rfl,hx⟩)) (by omega) g1 (by omega) lL ((ap.bR Hb.out).trans vg) EL hw (λj k h=>(aO j k h).imp id (λe=>by omega)) (λj h=>by
  rcases aO j _ h with e|e
  ·exact Fc (.inr (.inr ⟨j,e⟩))
  ·omega) Fs x1)
 simp only[yV]at HE ⊢;unfold oq at HE;have z4:=bX x1;have z5:∀o,W1.frozen? ⟨W.heap.size,o,zb⟩=false:=λo=>cT _ _ o _ _ x1
 clear hn hx g1 lL EL vg aO Fs x1 HF Hb Hx Fc uX iJ LF ai;go_wp2;exact bh (v:=zf #[za .i64 k',za .i64 r',za .i64 a',za .i64 e',.slice so sm sc]) (by simp[results,results55,go_sem,z4]) rfl HE.out
def kF(o:Int×ByteArray):Bool:=bF o.1 1 3
def tS(os:List (Int×ByteArray)):Bool:=decide (os.length<=20000)&&os.all kF
theorem zpc(v:zj)(os:List (Int×ByteArray))(w:ze)(hs:jN lo w v os)(hn:os.length<=20000):
  zk prog 108 #[v,.func (.func 83) #[] #[]] w λe w'=>((e=.returned (za .i64 (-1))/\os.all kF=true)\/∃k:Nat,e=.returned (za .i64 k)/\os.all kF=false)/\zg w.heap.size w w':=by
 obtain⟨ao,cap,rfl,hm,hc⟩:=hs;have Hc:=ay hc;clear hc
 go_enter func108,ntmps108
 go_wp2
 go_loopw [8] (λi wr=>∃k:Nat,k<=os.length/\i=za .i64 k/\zh (∀j,j<k->kF (os.getD j gK)=true)/\zg w.heap.size w wr) (λi _=>os.length-(intOf i).toNat)
 case atStart=>exact⟨0,aR _,rfl,λj hj=>absurd hj (cR _),Below.refl _ _⟩
 case round=>
  obtain⟨k,hk,rfl,HK,hb⟩:=hrel
  by_cases hlt:k<os.length
  ·obtain⟨b,o,x,t,rfl,Hn,aZ,c0,c1⟩:=Hc.out.elem hb hlt;have hsz:=hb.size;have da:(0:Int)<=(k:Int):=by omega
   have cO:(k:Int)<(os.length:Int):=by omega
   have Ch:=ay (hb.alloc hsz (zd #[za .i64 x,.string t] 92));have Ki:zh (kF (os.getD k gK)=false->os.all kF=false):=λh=>by
    rw[List.all_eq_false];exact⟨os.getD k gK,by rw[bP,dh hlt];exact kg hlt,by rw[h];exact Bool.false_ne_true⟩
   by_cases h1:x<1
   ·have d1:decide (x<1)=true:=by simp[h1]
    have Hf:zh (os.all kF=false):=Ki.out (by rw[Hn.out];simp[kF,bF];omega);clear Ki h1;go_wp2;go_ret;exact⟨.inr ⟨k,rfl,Hf.out⟩,Ch.out⟩
   ·have d1:decide (x<1)=false:=by simp;omega
    by_cases h2:x > 3
    ·have d2:decide (x > 3)=true:=by simp[h2]
     have Hf:zh (os.all kF=false):=Ki.out (by rw[Hn.out];simp[kF,bF];omega);clear Ki h1 h2;go_wp2;go_ret;exact⟨.inr ⟨k,rfl,Hf.out⟩,Ch.out⟩
    ·have d2:decide (x > 3)=false:=by simp;omega
     have Ee:zh (∀j,j<k+1->kF (os.getD j gK)=true):=λj hj=>by
      by_cases e:j=k
      ·subst e;rw[Hn.out];simp[kF,bF];omega
      ·exact HK.out j (by omega)
     clear Ki h1 h2 HK;go_wp2
     go_roundw
     case rel=>exact⟨k+1,by omega,by go_num,Ee,Ch.out⟩
     case measure=>simp[intOf];omega
  ·have bK:k=os.length:=by omega
   have Hf:zh (os.all kF=true):=by
    show _=_;rw[iQ];intro y hy;obtain⟨j,hj,rfl⟩:=DW hy;have:=HK.out j (by omega);rwa[bP,dh hj]at this
   go_wp2;go_ret;exact⟨.inl ⟨rfl,Hf.out⟩,hb⟩
theorem zju(v:zj)(os:List (Int×ByteArray))(w:ze)(hs:jN lo w v os)(hn:os.length<=20000):
  zk prog 82 #[v,.func (.func 83) #[] #[]] w λe w'=>e=.returned (.bool (!os.all kF))/\zg w.heap.size w w':=by
 have hx:=zpc v os w hs hn;clear hs
 go_enter func82,ntmps82
 go_wp2_with fail
 refine hx.mono ?_;rintro e w1 ⟨⟨rfl,h1⟩|⟨k,rfl,h2⟩,hb⟩
 ·have H1:=ay h1;clear h1 hx;go_wp2;go_ret;exact⟨bz (by rw[H1.out];rfl),hb⟩
 ·have H2:=ay h2;have hd:decide ((0:Int)<=(k:Int))=true:=by simp
  clear h2 hx;go_wp2;go_ret;exact⟨bz (by rw[H2.out];rfl),hb⟩
theorem zrJ(ao:Option Addr)(os:List (Int×ByteArray))(cap:Nat)(w:ze)(hs:jN lo w (.slice ao os.length cap) os):
  zk prog 53 #[.slice ao os.length cap] w λe w'=>e=.returned (.bool (tS os))/\zg w.heap.size w w':=by
 have hm:os.length<=9223372036854775807:=by obtain⟨_,_,_,h,_⟩:=hs;exact h
 by_cases hn:os.length<=20000
 ·have hx:=zju _ os w hs hn;have H:zh (tS os=os.all kF):=by show _=_;simp[tS,hn]
  have hd:decide ((os.length:Int) > 20000)=false:=by simp;omega
  clear hs
  go_enter func53,ntmps53
  go_wp2_with fail
  refine hx.mono ?_;rintro e w1 ⟨rfl,hb⟩;clear hx;go_wp2;go_ret;exact⟨bz H.out.symm,hb⟩
 ·have H:zh (tS os=false):=by show _=_;simp[tS];omega
  have hd:decide ((os.length:Int) > 20000)=true:=by simp;omega
  clear hs
  go_enter func53,ntmps53
  go_wp2;go_ret;exact⟨bz H.out.symm,Below.refl _ _⟩
end
section
variable {w W:ze}{C0 C1:Array zj}{B g:Nat}
structure sO(w:ze)(t0 t1:zm)(C0 C1:Array zj)(W:ze):Prop where
 below:zg w.heap.size w W
 size:w.heap.size+1+1<=W.heap.size
 r0:W.heap[w.heap.size]?=zc (zd C0 t0 (0,0))
 r1:W.heap[w.heap.size+1]?=zc (zd C1 t1 (0,0))
theorem sO.new(w:ze)(t0 t1:zm)(C0 C1:Array zj):sO w t0 t1 C0 C1 ((w.alloc (zd C0 t0)).alloc (zd C1 t1)):=
 ⟨(aw).alloc (by simp) _,by simp,by rw[heap_alloc2_old],by rw[heap_alloc2_new]⟩
theorem sO.call{W':ze}{t0 t1:zm}(h:sO w t0 t1 C0 C1 W)(hb:zg W.heap.size W W'):sO w t0 t1 C0 C1 W':=by
 have hz:=h.size;exact⟨aq h.below h.below.size hb,aW hz hb.size,(hb.block _ (by omega)).trans h.r0,(hb.block _ (by omega)).trans h.r1⟩
theorem sO.cells{t0 t1:zm}(h:sO w t0 t1 C0 C1 W):(∀o,W.cell? ⟨w.heap.size,o,zb⟩=C0[o]?)/\(∀o,W.cell? ⟨w.heap.size+1,o,zb⟩=C1[o]?)/\
  (∀o,W.frozen? ⟨w.heap.size,o,zb⟩=false)/\(∀o,W.frozen? ⟨w.heap.size+1,o,zb⟩=false):=
 ⟨λ_=>aM _ _ _ _ _ _ h.r0,λ_=>aM _ _ _ _ _ _ h.r1,λ_=>cT _ _ _ _ _ h.r0,λ_=>cT _ _ _ _ _ h.r1⟩
theorem F8(h:zg B w W)(hg:B<=g)(v0 v1 v2 v3 v4:zj):
  zg B w (((((W.setCell ⟨g,0,zb⟩ v0).setCell ⟨g,1,zb⟩ v1).setCell ⟨g,2,zb⟩ v2).setCell ⟨g,3,zb⟩ v3).setCell ⟨g,4,zb⟩ v4):=
 ((((h.setCell (by exact hg) _).setCell (by exact hg) _).setCell (by exact hg) _).setCell (by exact hg) _).setCell (by exact hg) _
theorem zhE{h o:Nat}(hb:zg B w W)(hh:B<=h)(hg:B<=g)(v v0 v1 v2 v3 v4:zj):
  zg B w ((((((W.setCell ⟨h,o,zb⟩ v).setCell ⟨g,0,zb⟩ v0).setCell ⟨g,1,zb⟩ v1).setCell ⟨g,2,zb⟩ v2).setCell ⟨g,3,zb⟩ v3).setCell ⟨g,4,zb⟩ v4):=
 F8 (hb.setCell (by exact hh) _) hg _ _ _ _ _
theorem zi7(s:cK)(w:ze):
  zk prog 50 #[zf #[za .i64 s.L,.string s.B,.bool s.C,za .i64 s.S,za .i64 s.N]] w λe w'=>e=.returned (zf #[za .i64 (tV s).L,.string (tV s).B,.bool (tV s).C,za .i64 (tV s).S,za .i64 (tV s).N])/\zg w.heap.size w w':=by
 have T:=sO.new w 32 32 #[za .i64 s.L,.string s.B,.bool s.C,za .i64 s.S,za .i64 s.N] #[za .i64 0,.string ⟨#[]⟩,.bool false,za .i64 0,za .i64 0];cases h:fk s
 ·have H:tV s=.zero:=by simp[tV,h]
  rw[H];clear H;simp only[cK.zero]
  go_enter func50,ntmps50
  go_wp2_with fail
  refine(DB s _).mono ?_;rintro e w1 ⟨rfl,ag⟩;replace T:=T.call ag;clear ag;obtain⟨c0,c1,f0,f1⟩:=T.cells;go_wp2;exact bh (v:=zf #[za .i64 0,.string ⟨#[]⟩,.bool false,za .i64 0,za .i64 0]) (by simp[results,results50,go_sem,c1]) rfl ⟨rfl,F8 T.below (by omega) _ _ _ _ _⟩
 ·have H:tV s=⟨s.L,s.B,true,s.S,s.N⟩:=by simp[tV,h]
  rw[H];clear H;dsimp only
  go_enter func50,ntmps50
  go_wp2_with fail
  refine(DB s _).mono ?_;rintro e w1 ⟨rfl,ag⟩;replace T:=T.call ag;clear ag;obtain⟨c0,c1,f0,f1⟩:=T.cells;go_wp2;exact bh (v:=zf #[za .i64 s.L,.string s.B,.bool true,za .i64 s.S,za .i64 s.N]) (by simp[results,results50,go_sem,c1]) rfl ⟨rfl,zhE T.below (aj _) (by omega) _ _ _ _ _ _⟩
theorem zko(L:Int)(B:ByteArray)(C:Bool)(S N:Int)(ch:ByteArray)(w:ze)(_:ch.size<=1048576)(_:B.size<=1048576)(h:fk ⟨L,B,C,S,N⟩=false):
  zk prog 49 #[zf #[za .i64 L,.string B,.bool C,za .i64 S,za .i64 N],.string ch] w λe w'=>e=.returned (.tuple #[zf #[za .i64 0,.string ⟨#[]⟩,.bool false,za .i64 0,za .i64 0],za .i64 1])/\zg w.heap.size w w':=by
 have T:=sO.new w 32 32 #[za .i64 L,.string B,.bool C,za .i64 S,za .i64 N] #[za .i64 0,.string ⟨#[]⟩,.bool false,za .i64 0,za .i64 0]
 go_enter func49,ntmps49
 go_wp2_with fail
 refine(DB ⟨L,B,C,S,N⟩ _).mono ?_;rintro e w1 ⟨rfl,ag⟩;replace T:=T.call ag;clear ag;obtain⟨c0,c1,f0,f1⟩:=T.cells;go_wp2;exact bh (v:=.tuple #[zf #[za .i64 0,.string ⟨#[]⟩,.bool false,za .i64 0,za .i64 0],za .i64 1]) (by simp[results,results49,go_sem,c1]) rfl ⟨rfl,F8 T.below (by omega) _ _ _ _ _⟩
theorem zi6(L:Int)(B:ByteArray)(S N:Int)(ch:ByteArray)(w:ze)(_:ch.size<=1048576)(_:B.size<=1048576)(h:fk ⟨L,B,true,S,N⟩=true):
  zk prog 49 #[zf #[za .i64 L,.string B,.bool true,za .i64 S,za .i64 N],.string ch] w λe w'=>e=.returned (.tuple #[zf #[za .i64 L,.string B,.bool true,za .i64 S,za .i64 N],za .i64 2])/\zg w.heap.size w w':=by
 have T:=sO.new w 32 32 #[za .i64 L,.string B,.bool true,za .i64 S,za .i64 N] #[za .i64 0,.string ⟨#[]⟩,.bool false,za .i64 0,za .i64 0]
 go_enter func49,ntmps49
 go_wp2_with fail
 refine(DB ⟨L,B,true,S,N⟩ _).mono ?_;rintro e w1 ⟨rfl,ag⟩;replace T:=T.call ag;clear ag;obtain⟨c0,c1,f0,f1⟩:=T.cells;go_wp2;exact bh (v:=.tuple #[zf #[za .i64 L,.string B,.bool true,za .i64 S,za .i64 N],za .i64 2]) (by simp[results,results49,go_sem,c1]) rfl ⟨rfl,F8 T.below (by omega) _ _ _ _ _⟩
theorem zi5(L:Int)(B:ByteArray)(S N:Int)(ch:ByteArray)(w:ze)(hch:ch.size<=1048576)(hB:B.size<=1048576)(h:fk ⟨L,B,false,S,N⟩=true)(hL:L<(B.size:Int)+ch.size):
  zk prog 49 #[zf #[za .i64 L,.string B,.bool false,za .i64 S,za .i64 N],.string ch] w λe w'=>e=.returned (.tuple #[zf #[za .i64 L,.string B,.bool false,za .i64 S,za .i64 N],za .i64 3])/\zg w.heap.size w w':=by
 have T:=sO.new w 32 32 #[za .i64 L,.string B,.bool false,za .i64 S,za .i64 N] #[za .i64 0,.string ⟨#[]⟩,.bool false,za .i64 0,za .i64 0]
 go_enter func49,ntmps49
 go_wp2_with fail
 refine(DB ⟨L,B,false,S,N⟩ _).mono ?_;rintro e w1 ⟨rfl,ag⟩;replace T:=T.call ag;clear ag;obtain⟨c0,c1,f0,f1⟩:=T.cells;go_wp2;exact bh (v:=.tuple #[zf #[za .i64 L,.string B,.bool false,za .i64 S,za .i64 N],za .i64 3]) (by simp[results,results49,go_sem,c1]) rfl ⟨rfl,F8 T.below (by omega) _ _ _ _ _⟩
theorem zi4(L:Int)(B:ByteArray)(S N:Int)(ch:ByteArray)(w:ze)(hch:ch.size<=1048576)(hB:B.size<=1048576)(h:fk ⟨L,B,false,S,N⟩=true)(hL:¬L<(B.size:Int)+ch.size):
  zk prog 49 #[zf #[za .i64 L,.string B,.bool false,za .i64 S,za .i64 N],.string ch] w λe w'=>e=.returned (.tuple #[zf #[za .i64 L,.string (B++ch),.bool false,za .i64 S,za .i64 N],za .i64 0])/\zg w.heap.size w w':=by
 have T:=sO.new w 32 32 #[za .i64 L,.string B,.bool false,za .i64 S,za .i64 N] #[za .i64 0,.string ⟨#[]⟩,.bool false,za .i64 0,za .i64 0]
 go_enter func49,ntmps49
 go_wp2_with fail
 refine(DB ⟨L,B,false,S,N⟩ _).mono ?_;rintro e w1 ⟨rfl,ag⟩;replace T:=T.call ag;clear ag;obtain⟨c0,c1,f0,f1⟩:=T.cells;go_wp2;exact bh (v:=.tuple #[zf #[za .i64 L,.string (B++ch),.bool false,za .i64 S,za .i64 N],za .i64 0]) (by simp[results,results49,go_sem,c1]) rfl ⟨rfl,zhE T.below (aj _) (by omega) _ _ _ _ _ _⟩
theorem zlN(s:cK)(ch:ByteArray)(w:ze)(hch:ch.size<=1048576)(hB:s.B.size<=1048576):
  zk prog 49 #[zf #[za .i64 s.L,.string s.B,.bool s.C,za .i64 s.S,za .i64 s.N],.string ch] w λe w'=>e=.returned (.tuple #[zf #[za .i64 (lq s ch).L,.string (lq s ch).B,.bool (lq s ch).C,za .i64 (lq s ch).S,za .i64 (lq s ch).N],za .i64 (qq s ch)])/\zg w.heap.size w w':=by
 obtain⟨L,B,C,S,N⟩:=s;cases h:fk ⟨L,B,C,S,N⟩
 ·simp only[lq,qq,h,cK.zero,zZ,if_false];exact zko L B C S N ch w hch hB h
 cases C
 case true=>
  simp only[lq,qq,h,if_true];exact zi6 L B S N ch w hch hB h
 by_cases hL:L<(B.size:Int)+ch.size
 ·simp only[lq,qq,h,hL,if_true,zZ,if_false];exact zi5 L B S N ch w hch hB h hL
 ·simp only[lq,qq,h,hL,if_true,zZ,if_false];exact zi4 L B S N ch w hch hB h hL
theorem zlc(L:Int)(w:ze):
  zk prog 52 #[za .i64 L] w λe w'=>e=.returned (zf #[za .i64 (gj L).L,.string (gj L).B,.bool (gj L).C,za .i64 (gj L).S,za .i64 (gj L).N])/\zg w.heap.size w w':=by
 have T:=sO.new w 32 32 #[za .i64 0,.string ⟨#[]⟩,.bool false,za .i64 0,za .i64 0] #[za .i64 L,.string ⟨#[]⟩,.bool false,za .i64 0,za .i64 0];cases h:bF L 1 4096
 ·have H:gj L=.zero:=by simp[gj,h]
  have hs:fk ⟨L,⟨#[]⟩,false,0,0⟩=false:=by simp[fk,h]
  rw[H];simp only[cK.zero];clear H
  go_enter func52,ntmps52
  go_wp2_with fail
  refine(YA _ ⟨L,⟨#[]⟩,false,0,0⟩ _ T.r1).mono ?_;rintro e w1 ⟨rfl,ag⟩;replace T:=T.call ag;clear ag;obtain⟨c0,c1,f0,f1⟩:=T.cells;go_wp2;exact bh (v:=zf #[za .i64 0,.string ⟨#[]⟩,.bool false,za .i64 0,za .i64 0]) (by simp[results,results52,go_sem,c0]) rfl ⟨rfl,F8 T.below (by omega) _ _ _ _ _⟩
 ·have H:gj L=⟨L,⟨#[]⟩,false,0,0⟩:=by simp[gj,h]
  have hs:fk ⟨L,⟨#[]⟩,false,0,0⟩=true:=by
   have h':=h;simp[bF]at h';have hz:(⟨#[]⟩:ByteArray).size=0:=rfl;simp[fk,bF,hz];omega
  rw[H];dsimp only;clear H
  go_enter func52,ntmps52
  go_wp2_with fail
  refine(YA _ ⟨L,⟨#[]⟩,false,0,0⟩ _ T.r1).mono ?_;rintro e w1 ⟨rfl,ag⟩;replace T:=T.call ag;clear ag;obtain⟨c0,c1,f0,f1⟩:=T.cells;go_wp2;exact bh (v:=zf #[za .i64 L,.string ⟨#[]⟩,.bool false,za .i64 0,za .i64 0]) (by simp[results,results52,go_sem,c0]) rfl ⟨rfl,F8 T.below (by omega) _ _ _ _ _⟩
end
structure Fo(w:ze)(t0 t1 t2 t3:zm)(C0 C1 C2 C3:Array zj)(W:ze):Prop where
 below:zg w.heap.size w W
 r0:W.heap[w.heap.size]?=zc (zd C0 t0 (0,0))
 r1:W.heap[w.heap.size+1]?=zc (zd C1 t1 (0,0))
 r2:W.heap[w.heap.size+2]?=zc (zd C2 t2 (0,0))
 r3:W.heap[w.heap.size+3]?=zc (zd C3 t3 (0,0))
section
variable {w W W':ze} {t0 t1 t2 t3:zm} {C0 C1 C2 C3:Array zj}
theorem Fo.call(h:Fo w t0 t1 t2 t3 C0 C1 C2 C3 W)(hb:zg W.heap.size W W'):Fo w t0 t1 t2 t3 C0 C1 C2 C3 W':=
 ⟨aq h.below h.below.size hb,ck h.r0 hb,ck h.r1 hb,ck h.r2 hb,ck h.r3 hb⟩
theorem Fo.size(h:Fo w t0 t1 t2 t3 C0 C1 C2 C3 W):w.heap.size+3<W.heap.size:=JK h.r3
theorem Fo.new(w:ze)(t0 t1 t2 t3:zm)(C0 C1 C2 C3:Array zj):Fo w t0 t1 t2 t3 C0 C1 C2 C3 ((((w.alloc (zd C0 t0)).alloc (zd C1 t1)).alloc (zd C2 t2)).alloc (zd C3 t3)):=by
 have s1:(w.alloc (zd C0 t0)).heap.size=w.heap.size+1:=by simp
 have s2:((w.alloc (zd C0 t0)).alloc (zd C1 t1)).heap.size=w.heap.size+2:=by simp
 have s3:(((w.alloc (zd C0 t0)).alloc (zd C1 t1)).alloc (zd C2 t2)).heap.size=w.heap.size+3:=by simp
 refine⟨((aw).alloc (by simp) _).alloc (by simp;omega) _ |>.alloc (by simp;omega) _,?_,?_,?_,?_⟩
 ·exact cX (cX (cX (aI _ _)))
 ·have:=aI (w.alloc (zd C0 t0)) (zd C1 t1);rw[s1]at this;exact cX (cX this)
 ·have:=aI ((w.alloc (zd C0 t0)).alloc (zd C1 t1)) (zd C2 t2);rw[s2]at this;exact cX this
 ·have:=aI (((w.alloc (zd C0 t0)).alloc (zd C1 t1)).alloc (zd C2 t2)) (zd C3 t3);rw[s3]at this;exact this
theorem Fo.cells(h:Fo w t0 t1 t2 t3 C0 C1 C2 C3 W):(∀o,W.cell? ⟨w.heap.size,o,zb⟩=C0[o]?)/\(∀o,W.cell? ⟨w.heap.size+1,o,zb⟩=C1[o]?)/\(∀o,W.cell? ⟨w.heap.size+2,o,zb⟩=C2[o]?)/\(∀o,W.cell? ⟨w.heap.size+3,o,zb⟩=C3[o]?)/\(∀o,W.frozen? ⟨w.heap.size+1,o,zb⟩=false)/\(∀o,W.frozen? ⟨w.heap.size+2,o,zb⟩=false)/\(∀o,W.frozen? ⟨w.heap.size+3,o,zb⟩=false):=
 ⟨bX h.r0,bX h.r1,bX h.r2,bX h.r3,λo=>cT _ _ o _ _ h.r1,λo=>cT _ _ o _ _ h.r2,λo=>cT _ _ o _ _ h.r3⟩
end
theorem zkp{lo:Nat}(ao:Option Addr)(rc:Nat)(cv bv fv tv ev nv kv:zj)(rs:List bi)(d:bj)(s:cK)(w:ze)(hr:fU lo w (.slice ao rs.length rc) rs)(hsm:pC rs)(hs:fV lo w cv bv fv tv ev nv kv d)(hB:iw rs d s=false):
  zk prog 7 #[zf #[.slice ao rs.length rc,cv,za .i64 d.width,bv,fv,tv,ev,nv,kv],zf #[za .i64 s.L,.string s.B,.bool s.C,za .i64 s.S,za .i64 s.N]] w λe w'=>SL w .zero .zero e w':=by
 have F0:=Fo.new w 41 32 32 35 #[.slice ao rs.length rc,cv,za .i64 d.width,bv,fv,tv,ev,nv,kv] #[za .i64 s.L,.string s.B,.bool s.C,za .i64 s.S,za .i64 s.N] #[za .i64 0,.string ⟨#[]⟩,.bool false,za .i64 0,za .i64 0] #[za .i64 0,za .i64 0,za .i64 0,za .i64 0,zi zb 0 0];obtain⟨W0,ai⟩:∃W0,(((w.alloc (zd #[.slice ao rs.length rc,cv,za .i64 d.width,bv,fv,tv,ev,nv,kv] 41)).alloc (zd #[za .i64 s.L,.string s.B,.bool s.C,za .i64 s.S,za .i64 s.N] 32)).alloc (zd #[za .i64 0,.string ⟨#[]⟩,.bool false,za .i64 0,za .i64 0] 32)).alloc (zd #[za .i64 0,za .i64 0,za .i64 0,za .i64 0,zi zb 0 0] 35)=W0:=⟨_,rfl⟩;rw[ai]at F0;obtain⟨ba,bc,Ln⟩:∃ba bc,bv=.slice ba d.base.length bc:=by obtain⟨ba,bc,h,_⟩:=hs.base;exact⟨ba,bc,h⟩
 subst Ln;have c1:=WR ao rc cv _ fv tv ev nv kv rs d W0 (hr.below F0.below) hsm (hs.below F0.below);have Hn:zh (iw rs d s=(og rs d&&fk s&&decide (s.S<d.base.length))):=rfl;obtain⟨c0,AQ,yX,c3,f1,f2,f3⟩:=F0.cells;clear hr hsm
 go_enter func7,ntmps7
 go_wp2_with fail
 refine c1.mono ?_;rintro e W1 ⟨rfl,ag⟩;have F1:=F0.call ag;clear c0 AQ yX c3 f1 f2 f3 ai c1 F0 ag;cases hm:og rs d
 ·obtain⟨c0,c1,c2,c3,f1,f2,f3⟩:=F1.cells;go_wp2;exact bh (v:=.tuple #[zf #[za .i64 0,.string ⟨#[]⟩,.bool false,za .i64 0,za .i64 0],zf #[za .i64 0,za .i64 0,za .i64 0,za .i64 0,zi zb 0 0]]) (by simp[results,results7,go_sem,c2,c3]) rfl ⟨_,rfl,⟨rfl,.inl ⟨rfl,rfl⟩⟩,by
   iterate 10 refine Below.setCell ?_ (by simp<;>omega) _
   exact F1.below⟩
 have c2:=DB s W1;obtain⟨c0,c1,yX,c3,f1,f2,f3⟩:=F1.cells
 go_wp2_with fail
 refine c2.mono ?_;rintro e W2 ⟨rfl,ae⟩;have F2:=F1.call ae;clear c0 c1 yX c3 f1 f2 f3 c2 F1 ae;obtain⟨c0,c1,c2,c3,f1,f2,f3⟩:=F2.cells;cases hq:fk s
 ·go_wp2;exact bh (v:=.tuple #[zf #[za .i64 0,.string ⟨#[]⟩,.bool false,za .i64 0,za .i64 0],zf #[za .i64 0,za .i64 0,za .i64 0,za .i64 0,zi zb 0 0]]) (by simp[results,results7,go_sem,c2,c3]) rfl ⟨_,rfl,⟨rfl,.inl ⟨rfl,rfl⟩⟩,by
   iterate 10 refine Below.setCell ?_ (by simp<;>omega) _
   exact F2.below⟩
 have hS:decide ((d.base.length:Int)<=s.S)=true:=decide_eq_true (by
  have:=Hn.out;rw[hB,hm,hq]at this;have:=of_decide_eq_false this.symm;omega)
 have nR:decide (s.S>=(d.base.length:Int))=true:=hS;clear hm hq Hn hB;go_wp2;exact bh (v:=.tuple #[zf #[za .i64 0,.string ⟨#[]⟩,.bool false,za .i64 0,za .i64 0],zf #[za .i64 0,za .i64 0,za .i64 0,za .i64 0,zi zb 0 0]]) (by simp[results,results7,go_sem,c2,c3]) rfl ⟨_,rfl,⟨rfl,.inl ⟨rfl,rfl⟩⟩,by
  iterate 10 refine Below.setCell ?_ (by simp<;>omega) _
  exact F2.below⟩
end Go.Proofs.YtdimhpfiieepiaaGreatDoor
