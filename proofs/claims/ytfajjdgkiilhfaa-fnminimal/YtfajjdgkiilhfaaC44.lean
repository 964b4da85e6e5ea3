import Derived.Test.YtfajjdgkiilhfaaC43
import Derived.Deep.Cut
import Derived.Deep.CutRange
namespace Go.Proofs.Ytfajjdgkiilhfaa
open Proofs.Try
open Option renaming some->za,none->zh
open Value renaming slice->zi,int->zn
open RowKit renaming Below->zp,Hid->zw
open Go renaming World->zx,Calls->zy
set_option maxHeartbeats 8000000
set_option maxRecDepth 100000
open Go.RowKit
attribute [local go_sem ↓] wp_at_zero wp_at_succ
variable {n s g g' G O c:Nat}{l f:List Tok}{ns N:List aI}{q:Nat -> Nat}
theorem ah{p:Prop}(h:p):zw p:=h
theorem zkC{w:zx}{base Ny size:Nat}{e:TypeId}{v:Value}{xs:List Value}(h:w.ownsRow base e size v n xs)(hb:Ny<=base):w.ownsRow Ny e size v n xs:=by
 refine⟨h.1,?_⟩;rcases h.2 with h|⟨g,cap,a9,hv,hg,r⟩
 ·exact .inl h
 ·exact .inr ⟨g,cap,a9,hv,cM hb hg,r⟩
theorem zlz(h:Gr s g l n ns g'):aZ l 0=0\/aZ l 0=1:=by
 induction h with
 |atom hk=>exact .inl hk
 |aH ho _ _ _=>exact .inr ho
 |bare _ ih=>exact ih
 |jX h _ ih=>rw[xt _ (qh.2 (xG h))];exact ih
 |one _ ih=>exact ih
 |more h _ ih _=>rw[xt _ (qh.2 (xG h))];exact ih
 |eA _ ih=>exact ih
 |alts h _ _ ih _=>rw[xt _ (qh.2 (xG h))];exact ih
theorem zsp{r:List Tok}{P:List (List aI)}(h:Fs g r P g'):r=[]\/aZ r 0=0\/aZ r 0=1:=by
 cases h with
 |nil=>exact .inl rfl
 |cons h _=>right;rw[xt _ (qh.2 (xG h))];exact zlz h
theorem zsq(h:Gr s g f n N g')(hs:s=1):∃f0 N0,Gr 0 g f0 0 N0 g'/\((f=f0/\N=N0)\/∃rp:Tok,rp.kind=4/\f=f0++[rp]/\N=N0++[Jj rp.mn rp.mx]):=by
 cases h with
 |atom|aH|one|more|eA|alts=>omega
 |bare h=>exact⟨_,_,h,.inl ⟨rfl,rfl⟩⟩
 |jX h hr=>exact⟨_,_,h,.inr ⟨_,hr,rfl,rfl⟩⟩
theorem zss(h:Gr s g f n N g')(hs:s=0):(∃x:Tok,x.kind=0/\f=[x]/\N=[Pp x.set]/\g'=g)\/∃(o cl:Tok) (l:List Tok) (ns:List aI) (m:Nat),o.kind=1/\cl.kind=2/\f=o::(l++[cl])/\Gr 3 (g+1) l (m+1) ns g'/\N=ns++List.replicate m Hi++[KE (g+1)]:=by
 cases h with
 |bare|jX|one|more|eA|alts=>omega
 |atom hk=>exact .inl ⟨_,hk,rfl,rfl,rfl⟩
 |aH ho h hc=>exact .inr ⟨_,_,_,_,_,ho,hc,rfl,h,rfl⟩
def Rk(w:zx)(N:List aI)(e:Ending)(w':zx):Prop:=∃v,e=.returned v/\fT (λb=>w.heap.size<=b) w' v N/\zp w.heap.size w w'
theorem zoy(xs:Array Value)(w:zx):(callFunc 86 xs).run prog w=.ok (.enter 86 xs) w:=by kernel_rfl
structure SqS(l:List Tok)(g g':Nat)(P:List (List aI))(k:Nat)(a r:List Tok)(P1 P2:List (List aI))(g1:Nat):Prop where
 e:l=a++r
 k:k=a.length
 fs:Fs g1 r P2 g'
 p:P=P1++P2
 num:g1=g+cZ a a.length
theorem znE(w:zx)(hG:Gr 2 g l (n+1) ns g')(h:gK w G O g l q)(hl:l.length<=2000)(kf:l.length<=c)(dN:c<=9223372036854775807)
  (zxP:∀(O2 g2 c2:Nat) (l2:List Tok) (N2:List aI) (g3:Nat) (q2:Nat->Nat) (W:zx),l2.length<l.length->CA g2 l2 N2 g3->gK W G O2 g2 l2 q2->l2.length<=c2->c2<=9223372036854775807->zy prog 71 #[zi (za ⟨G,O2,zh⟩) l2.length c2] W (Rk W N2)):
  zy prog 71 #[zi (za ⟨G,O,zh⟩) l.length c] w (Rk w (ns++List.replicate n uk)):=by
 obtain⟨P,hFs,hPn,XK⟩:=ztO hG rfl;have KI:=(UH hG).2 (ax _);obtain⟨n0,AD⟩:∃n,n=l.length:=⟨_,rfl⟩;have fc:n0<=2000:=by omega
 have nL:n0<=c:=by omega
 have zAd:(n0:Int)<=(c:Int):=by omega
 have Am:(c:Int)<=9223372036854775807:=by omega
 have mF:=ah AD;have HL:=ah hl;have uI:=ah hPn;have HPf:=ah XK;have Is:P.length<=4000:=by omega
 have nI:P.flatten.length<=4000:=by rw[XK];omega
 have HG:=ah hG;have zyM:=ah zxP;rw[<-AD];clear AD kf dN hl hPn XK hG zxP KI
 go_enter func71,ntmps71
 go_wp2
 go_loopw [3,4] (λfv kv wr=>∃(k:Nat) (a r:List Tok) (P1 P2:List (List aI)) (g1:Nat),zw (SqS l g g' P k a r P1 P2 g1)/\kv=zn .i64 (k:Int)/\zp w.heap.size w wr/\zw (kR w.heap.size wr fv P1)) (λ_ kv _=>n0-(intOf kv).toNat)
 case atStart=>exact⟨0,[],l,[],P,g,⟨rfl,rfl,hFs,rfl,rfl⟩,rfl,aC,kR.new w _ _ (ax _) rfl⟩
 case round=>
  obtain⟨k,a,r,P1,P2,g1,HQ,rfl,hb,HO⟩:=hrel;have hs:=hb.size;have cY:k+r.length=n0:=by have:=HQ.out.k;have:=mF.out;have:=congrArg List.length HQ.out.e;simp at this;omega
  have wA:P1.length+P2.length=P.length:=by have:=congrArg List.length HQ.out.p;simp at this;omega
  by_cases hlt:k<n0
  case neg=>
   have h1:¬(k:Int)<(n0:Int):=by omega
   have OV:r=[]:=qj (by omega);have hp:P1=P/\0<P.length:=by
    have h1:=HQ.out.fs;rw[OV]at h1;have h2:=HQ.out.p;have h3:=uI.out;cases eJ:P2 with
    |nil=>rw[eJ]at h2;exact⟨by rw[h2];simp,by omega⟩
    |cons N P2=>
     rw[eJ]at h1;generalize he:([]:List Tok)=r0 at h1;cases h1 with
     |cons hg _=>
      have:=congrArg List.length he;have:=qh.2 (xG hg);simp at *;omega
   obtain⟨rfl,S0⟩:=hp;obtain⟨GF,cF,pvF,OA,Dd⟩:=HO.out.to S0;subst OA;have hJ:=zkh (c:=cF) 2 wr Dd (by omega) (by omega);clear cY wA OV;have HJ:zw (P1.flatten++List.replicate (P1.length-1) (Cr 2)=ns++List.replicate n uk):=by show _=_;rw[HPf.out,uI.out];rfl
   generalize P1.length=PL at *
   go_wp2_with fail
   refine hJ.mono ?_;rintro e w2 ⟨v,rfl,hN,aL⟩;rw[HJ.out]at hN;have pX:0<(ns++List.replicate n uk).length:=by have:=Ug HG.out;simp;omega
   have hV:=hN.to pX (U':=λb=>w.heap.size<=b) (λb hb _=>by
    rcases hb with hb|hb
    ·obtain⟨sv,ho,_⟩:=hN;have:=(dL ho hb).1;omega
    ·exact hb.1)
   go_wp2;go_ret;exact⟨v,rfl,hV,bi hb hs aL⟩
  have h1:(k:Int)<(n0:Int):=by omega
  obtain⟨f,r2,N,P3,g2,hr,eJ,Xw,hF2⟩:∃f r2 N P3 g2,r=f++r2/\P2=N::P3/\Gr 1 g1 f 0 N g2/\Fs g2 r2 P3 g':=by
   have h1:=HQ.out.fs;cases h1 with
   |nil=>simp at cY;omega
   |cons hg hf=>exact⟨_,_,_,_,_,rfl,rfl,hg,hf⟩
  obtain⟨f0,N0,Ab,Yw⟩:=zsq Xw rfl;obtain⟨m,hm⟩:∃m,m=f0.length:=⟨_,rfl⟩;have YU:0<m:=by rw[hm];exact qh.2 (xG Ab)
  obtain⟨r3,vf⟩:∃r3,r=f0++r3:=by
   rcases Yw with ⟨e,_⟩|⟨rp,_,e,_⟩
   ·exact⟨r2,by rw[hr,e]⟩
   ·exact⟨rp::r2,by rw[hr,e];simp⟩
  have yF:k+m<=n0:=by have:=congrArg List.length vf;simp at this;omega
  have kF:N0.length<=4000:=by have:=(UH Ab).1 (by omega);omega
  have zB0:P1.length+1<=P.length:=by rw[eJ]at wA;simp at wA;omega
  have Si:∀W,zp w.heap.size w W->gK W G O g l q:=λW hW=>h.below hW
  have De:∀W,zp w.heap.size w W->gK W G (O+k*5) g1 r (λj=>q (k+j)):=λW hW=>by
   have h2:=Si W hW;rw[HQ.out.e,show r=r++[] by simp]at h2;have:=h2.sub;rw[<-HQ.out.num,<-HQ.out.k]at this;exact this
  have CJ:=ah Si;have QR:=ah De;have zxp:k<l.length:=by have:=mF.out;omega
  have cI:aZ l k=aZ f0 0:=by
   rw[HQ.out.e,HQ.out.k,show a.length=a.length+0 from rfl,Gg,vf,xt _ (qh.2 (xG Ab))]
  have c0:=(Si _ (hb.alloc hs (.cells #[] 125))).DG zxp;rw[cI]at c0;have tO:aZ f0 0<7:=by rcases zlz Ab with e|e<;>omega
  have e1:(kB (aZ f0 0)==40)=decide (aZ f0 0=1):=Ef tO 1 (by omega);generalize KN:kB (aZ f0 0)=KB at c0 e1;generalize hbK:decide (aZ f0 0=1)=bK at e1;have HE:zw (r=f0++r3):=vf;have HR:zw (r=f++r2):=hr;have nA:=ah eJ;have eO:=ah Ab;have VL:=ah Yw;have HM:=ah hm;have HbK:=ah hbK;have Bi:=ah hF2;have HKL:=ah cY;clear Si De zxp cI tO KN hbK vf hr eJ Ab Yw hm Xw hF2 cY wA
  go_upto_region 5 with fail
  obtain⟨W1,bk⟩:∃W1,W1=wr.alloc (.cells #[] 125):=⟨_,rfl⟩;have Da:eX wr.heap.size (λb=>wr.heap.size<=b) W1 (zi (za ⟨wr.heap.size,0,zh⟩) 0 0) []:=by rw[bk];exact eX.new wr _ _ _ (ax _) rfl
  have dh:zp wr.heap.size wr W1:=by rw[bk];exact aC
  have Zo:wr.heap.size<W1.heap.size:=by rw[bk];simp
  rw[<-bk]at c0 ⊢;clear bk
  go_cut [21] from 15 to 20 (λv wx=>v=.bool bK/\wx=W1)
  case first=>
   go_wp2
   go_meet
   case rel=>exact⟨rfl,rfl⟩
  obtain⟨rfl,DC⟩:=hcut;subst DC
  rename_i Ip
  refine Ip _ _ ?_;have uG:=ah Da;clear Da e1
  go_cut [4,5] from 15 to 75 (λkv fv wx=>kv=zn .i64 ((k+m:Nat):Int)/\zw (eX wr.heap.size (λb=>wr.heap.size<=b) wx fv N0)/\zp wr.heap.size wr wx)
  case first=>
   rcases zss eO.out rfl with ⟨x,gz,pn,Sd,_⟩|⟨o,cl,li,nsi,mi,ho,bn,pn,NS,Sd⟩
   ·have aG:bK=false:=by rw[<-HbK.out,pn];simp[aZ,gz]
    subst aG;have jV:m=1:=by rw[HM.out,pn];rfl
    subst jV;have K4:=QR.out wc (bi hb hs dh);have nO:0<r.length:=by rw[HE.out,pn];simp
    have hx:r.getD 0 jb=x:=by rw[HE.out,pn];rfl
    have c2:wc.cell? ⟨G,O+k*5+2,zh⟩=za (zi (za ⟨q (k+0),0,zh⟩) 256 256):=by
     have c2:=K4.zyp nO;rw[hx,Nat.zero_mul,xJ]at c2;rw[c2];unfold DK;rw[ae gz]
    have Xm:=K4.set 0 nO (by unfold aZ;rw[hx];exact gz);rw[hx]at Xm;generalize q (k+0)=q0 at c2 Xm
    go_wp2_with fail
    refine(zlJ wc Xm).mono ?_;rintro e w2 ⟨rv,rfl,Sf,b2⟩;have Sg:fX (λb=>wc.heap.size<=b) w2 rv (iF x.set 256):=Sf.to λb hb=>(dL Sf hb).1
    obtain⟨ao,cp,hrv,_⟩:=id Sg;subst hrv;have cQ:=b2.size;have hND:=eX.below (eX.below uG.out b2) (W':=w2.alloc (.cells #[zn .i64 1,.slice ao (iF x.set 256).length cp,zn .i64 0,zn .i64 0,zn .i64 0] 125)) (aC);have zwC:fX (λb=>wr.heap.size<=b/\(Value.slice (za ⟨wr.heap.size,0,zh⟩) 0 0).ownBlock≠za b) (w2.alloc (.cells #[zn .i64 1,.slice ao (iF x.set 256).length cp,zn .i64 0,zn .i64 0,zn .i64 0] 125)) (.slice ao (iF x.set 256).length cp) (iF x.set 256):=by
     refine(Sg.keep (W':=w2.alloc _) (by simp) λb _ hl=>Below.heap_alloc _ _ _ hl).mono λb hb _=>⟨by have:=hb;omega,λe=>?_⟩
     have e2:wr.heap.size=b:=by simpa [Value.ownBlock]using e
     have:=hb;omega
    have HND:=ah hND;have zyN:=ah zwC;have HRU:=ah Sg;have HRO:=ah Sf;clear hND zwC Sg Sf;generalize hRL:(iF x.set 256).length=RL at *
    go_wp2_with (at_builtin;refine DU rfl (.tmp 64) (.tmp 72) rfl wr.heap.size (λb=>wr.heap.size<=b) (zi (za ⟨wr.heap.size,0,zh⟩) 0 0) [] rfl HND.out w2.heap.size (Pp x.set) (.slice ao RL cp) rfl (aU _ _) zyN.out (by simp) (by simp;omega) ?_;intro g' cap' w4 jq cU)
    have bZ:zp wr.heap.size wr w4:=(((bi dh dh.size b2).alloc (by omega) _).grown cU (by simp;omega) (λk hk=>by simp[Value.ownBlock]at hk;omega));have uH:=ah jq;clear jq cU;go_wp2
    go_meet
    case rel=>exact⟨by go_num,by rw[Sd];exact uH,bZ⟩
   ·have aG:bK=true:=by rw[<-HbK.out,pn];simp[aZ,ho]
    subst aG;have hmL:m=li.length+2:=by rw[HM.out,pn];simp
    obtain⟨ts,PA,hAs,zwA,zwz⟩:=ztM NS rfl;have Yv:=JB NS;have jU:=(UH NS).2 (by omega);have zAE:0<li.length:=qh.2 (xG NS);have oo:∀j,1<=j->j<m->0<bA r j:=by
     intro j h1 h2;rw[HE.out,Cf _ (by rw[<-HM.out];omega),pn,show j=j-1+1 by omega,zlA ho _ (by omega)];have:=Yv.pre (j-1) (by omega);omega
    have zw2:bA r m=0:=by
     rw[HE.out,Cf _ (by rw[<-HM.out];omega),HM.out,pn];exact(mD.aH ho bn Yv).F3
    have nO:r.length=n0-k:=by have:=HKL.out;omega
    have hrm:m<=r.length:=by rw[HE.out,HM.out];simp
    have tS:=bi hb hs dh;have K4:=QR.out wc tS;have hD:∀(j:Nat) (z:Int),j<=m->z=j->zy prog 68 #[zi (za ⟨G,O+k*5,zh⟩) (n0-k) (c-k),zn .i64 z] wc λe w'=>e=.returned (zn .i64 (bA r j))/\w'=wc:=by
     intro j z hj hz;have:=L9 (c:=c-k) wc K4 (k:=j) (ck:=z) (by omega) hz (by omega);rw[nO]at this;exact this
    have HD:=ah hD;have zy0:=ah oo;have zy1:=ah zw2;have HVw:=ah K4;have HAs:=ah hAs;have Vo:=ah zwA;have zyK:=ah zwz;have Q8:=ah pn;have zvJ:=ah Sd;have HML:=ah hmL;have Hgl:=ah jU;have i1:(k:Int)<=(n0:Int):=by omega
    have i2:(k:Int)<=(c:Int):=by omega
    have i3:(k:Int)<(c:Int):=by omega
    have i4:((n0:Int)-(k:Int)).toNat=n0-k:=by omega
    have i5:((c:Int)-(k:Int)).toNat=c-k:=by omega
    have i6:¬c-k=0:=by omega
    have zCO:2<m:=by omega
    clear hD oo zw2 K4 hAs zwA zwz pn Sd hmL nO hrm Yv jU NS zAE;go_wp2
    go_loop [6] (λev=>∃j:Nat,1<=j/\j<=m/\ev=zn .i64 ((k+j:Nat):Int)) (λev=>k+m-(intOf ev).toNat)
    case atStart=>exact⟨1,by omega,by omega,by go_num⟩
    case round=>
     obtain⟨j,pR,e8,rfl⟩:=hrel;have hC:=HD.out j (((k+j:Nat):Int)-(k:Int)) e8 (by omega);have i7:((k+j:Nat):Int)<=4000:=by omega
     by_cases hjm:j<m
     ·have hd:=zy0.out j pR hjm;generalize hKJ:k+j=KJ at *;generalize bA r j=D at *
      go_wp2_with fail
      refine hC.mono ?_;rintro e w2 ⟨rfl,hw⟩;rw[hw];clear hw w2;go_wp2
      go_round
      case rel=>exact⟨j+1,by omega,by omega,by go_num⟩
      case measure=>simp[intOf];omega
     ·have hje:j=m:=by omega
      subst hje;rw[zy1.out]at hC;generalize hKJ:k+j=KJ at *
      go_wp2_with fail
      refine hC.mono ?_;rintro e w2 ⟨rfl,hw⟩;rw[hw];clear hw w2 hC
      go_wp2_with fail
      obtain⟨WI,N6⟩:∃WI,WI=wc.alloc (.cells #[] 105):=⟨_,rfl⟩;have hFI:kR wr.heap.size WI (zi (za ⟨wc.heap.size,0,zh⟩) 0 0) []:=by rw[N6];exact kR.new wc _ _ (by omega) rfl
      have Yi:zp wr.heap.size wr WI:=by rw[N6];exact dh.alloc (by omega) _
      have hsI:WI.heap.size=wc.heap.size+1:=by rw[N6];simp
      have XV:∀W,zp w.heap.size w W->gK W G (O+(k+1)*5) (g1+1) li (λj=>q (k+(1+j))):=by
       intro W hW;have h2:=QR.out W hW;have e1:r=[o]++(li++([cl]++r3)):=by rw[HE.out,Q8.out];simp
       rw[e1]at h2;have h3:=h2.sub;rw[show [o].length=1 from rfl,A5,ae ho,show O+k*5+1*5=O+(k+1)*5 by omega]at h3;exact h3
      have hz:∀W,zp w.heap.size w W->W.cell? ⟨G,O+k*5+3,zh⟩=za (zn .i64 ((g1+1:Nat):Int)):=by
       intro W hW;have h2:=QR.out W hW;have e1:r=o::(li++([cl]++r3)):=by rw[HE.out,Q8.out];simp
       have h3:=h2.Tj (k:=0) (by rw[e1];simp);have h4:mS g1 r 0=((g1+1:Nat):Int):=by
        rw[e1];unfold mS;rw[ae (show aZ (o::(li++([cl]++r3))) 0=1 from ho)];show ((g1+(0+if aZ (o::(li++([cl]++r3))) 0=1 then 1 else 0):Nat):Int)=_;rw[ae (show aZ (o::(li++([cl]++r3))) 0=1 from ho),jB]
       rw[h4,Nat.zero_mul,xJ]at h3;exact h3
      have Sb:li.length=KJ-1-(k+1):=by have:=HML.out;omega
      obtain⟨KF,O7,I5⟩:=HAs.out.bj;have hS:=zii (c:=c-(k+1)) WI (XV WI (bi hb hs Yi)) (by omega) (by omega) (by omega) (zoY KF I5);rw[Sb]at hS;have OU:=zkF KF λt ht=>⟨(I5 t ht).1,(I5 t ht).2.1⟩
      rw[<-N6];have HS:=ah hS;have HVl:=ah XV;have Hz:=ah hz;have HLI:=ah Sb;have VX:=ah OU;have Wl:=ah O7;have HFI:=ah hFI;clear hS XV hz Sb OU O7 I5 KF hFI N6;refine HS.out.mono ?_;rintro e w2 ⟨pv,rfl,Ae,aL⟩;rw[VX.out]at Ae;have dz:(ja 0 ts).length=PA.length:=by rw[Uj];exact Wl.out
      obtain⟨M,hM⟩:∃M,M=PA.length:=⟨_,rfl⟩;rw[dz,<-hM]at Ae;have KO:0<M:=by have:=Vo.out;omega
      have Fa:M<=4000:=by have:=Hgl.out;have:=Vo.out;have:=HLI.out;omega
      obtain⟨gp,cp,Zf,zAp,zAq⟩:=Ae.form KO;subst Zf;have Om:∀t,t<M->w2.cell? ⟨gp,t,zh⟩=za (AV G (O+(k+1)*5) (c-(k+1)) ((ja 0 ts).getD t (0,0))):=by
       intro t ht;rw[Ae.cellAt t (by omega),vE,bI,bE (by omega)]
       rfl
      have VD:=ah Om;have rX:=ah hM;have zz9:=bi Yi Yi.size aL;clear Om Ae dz hM;obtain⟨R0,XL⟩:∃R0,R0=wr:=⟨_,rfl⟩;subst XL;go_wp2
      go_loopw [7,43] (λiv xv wz=>∃t:Nat,t<=M/\xv=zn .i64 (t:Int)/\zp R0.heap.size R0 wz/\w2.heap.size<=wz.heap.size/\zw (kR R0.heap.size wz iv (PA.take t)/\iv.ownBlock≠za gp/\wz.heap[gp]?=w2.heap[gp]?)) (λ_ xv _=>M-(intOf xv).toNat)
      case atStart=>exact⟨0,by omega,rfl,zz9,ax _,⟨kR.below HFI.out aL,λe=>by simp[Value.ownBlock]at e;omega,rfl⟩⟩
      case round=>
       obtain⟨t,ht,rfl,dS,hwz,HT⟩:=hrel;have Su:=bi hb hs dS;have hsz:=dS.size
       by_cases htM:t<M
       ·have htI:(t:Int)<(M:Int):=by omega
        have Zu:t<PA.length:=by have:=rX.out;omega
        obtain⟨a2,t2,c2,Lm,pX,g3,Ii⟩:=HAs.out.at t Zu;have c5:=VD.out t htM;rw[pX]at c5;have c5:wr.cell? ⟨gp,t,zh⟩=za (zi (za ⟨G,O+(k+1)*5+a2.length*5,zh⟩) t2.length (c-(k+1)-a2.length)):=by
         rw[World.cell?_of_block (w:=w2) HT.out.2.2,c5];unfold AV;rw[lW]
        have N5:=HVl.out wr Su;rw[Lm]at N5;have hV3:=N5.sub;have dT:a2.length+t2.length<=li.length:=by rw[Lm];simp
        have fV:=HLI.out;have il:=mF.out;have hC:=zyM.out _ _ (c-(k+1)-a2.length) t2 _ _ _ wr (by omega) Ii hV3 (by omega) (by omega);have hNp:0<(PA.getD t []).length:=by
         obtain⟨nn,nss,kZ,e⟩:=Ii;rw[e,a6];have:=Ug kZ;omega
        have jH:PA.take (t+1)=PA.take t++[PA.getD t []]:=by
         rw[vD Zu,bI,bE Zu];rfl
        have oT:=ah jH;have yO:(PA.take t).length=t:=by rw[nr];omega
        generalize PA.getD t []=NT at *;generalize t2.length=T2 at *;generalize c-(k+1)-a2.length=C2 at *;generalize O+(k+1)*5+a2.length*5=O2 at *;clear N5 hV3 Lm pX Ii jH fV il dT
        go_wp2_with fail
        refine hC.mono ?_;rintro e w5 ⟨v5,rfl,Ir,cO⟩;obtain⟨b5,c5x,s5,AK,r1,r2x,r3x,r4,r5,r6⟩:=id Ir;subst AK;have zww:fT (λb=>R0.heap.size<=b/\u7.ownBlock≠za b) w5 (zi (za ⟨b5,0,zh⟩) NT.length c5x) NT:=Ir.mono λb hb _=>⟨by omega,λe=>by
         obtain⟨pv,ho,_⟩:=HT.out.1;have:=(dL ho e).2;omega⟩
        have HNU:=ah zww;have nJ:kR R0.heap.size w5 u7 (PA.take t):=kR.below HT.out.1 cO;have JY:=ah nJ;have S6:=cO.size;clear Ir zww nJ r5 r6 r1 r2x r3x hC c5;generalize zBZ:NT.length=NTL at *
        go_wp2_with (at_builtin;refine zeP rfl (.tmp 47) (.tmp 50) rfl R0.heap.size u7 (zi (za ⟨b5,0,zh⟩) NTL c5x) (PA.take t) NT rfl rfl JY.out rfl HNU.out (by omega) (by omega) (by omega) ?_;intro g6 Rw w6 uV If Rp)
        have Tb:∀b,u7.ownBlock=za b->R0.heap.size<=b/\b<wr.heap.size:=λb e=>by
         obtain⟨pv,ho,_⟩:=HT.out.1;exact dL ho e
        have gM:zp R0.heap.size R0 w6:=(bi dS hsz cO).grown If (by omega) (λk hk=>(Tb k hk).1);have zxb:w6.heap[gp]?=w2.heap[gp]?:=by
         rw[If.block gp (by omega) (λe=>HT.out.2.1 e.symm),cO.block gp (by omega)];exact HT.out.2.2
        have SY:(Value.slice (za ⟨g6,0,zh⟩) ((PA.take t).length+1) Rw).ownBlock≠za gp:=λe=>by
         have e2:g6=gp:=by simpa [Value.ownBlock]using e
         subst e2;rcases Rp with h|h
         ·exact HT.out.2.1 h
         ·omega
        have hs6:=If.size;rw[yO]at uV SY;have U4:zw (kR R0.heap.size w6 (Value.slice (za ⟨g6,0,zh⟩) (t+1) Rw) (PA.take (t+1))/\(Value.slice (za ⟨g6,0,zh⟩) (t+1) Rw).ownBlock≠za gp/\w6.heap[gp]?=w2.heap[gp]?):=⟨by rw[oT.out];exact uV,SY,zxb⟩;clear uV If Rp SY zxb Tb;go_wp2
        go_roundw
        case rel=>exact⟨t+1,by omega,by go_num,gM,by omega,U4⟩
        case measure=>simp[intOf];omega
       ·have zAZ:t=M:=by omega
        subst zAZ;have NQ:kR R0.heap.size wr u7 PA:=by
         have:=HT.out.1;rw[rX.out,th]at this;exact this
        obtain⟨G7,c7,pv7,Tb,Dd⟩:=NQ.to (by have:=rX.out;omega);subst Tb;have NX:PA.flatten++List.replicate (PA.length-1) (Cr 3)=nsi++List.replicate mi Hi:=by rw[zyK.out,Vo.out];rfl
        obtain⟨NJ,Se⟩:∃NJ,NJ=nsi++List.replicate mi Hi:=⟨_,rfl⟩;rw[<-Se]at NX;have zzT:0<NJ.length:=by
         have hx:=Dd.pos 0 (by have:=rX.out;omega);have Ig:=zdg PA (0+1);rw[zfN (by have:=rX.out;omega),a6]at Ig;rw[<-NX,a6];omega
        have zzS:NJ.length<=8000:=by have h9:=zvJ.out;rw[<-Se]at h9;have:=congrArg List.length h9;simp at this;omega
        have dz:=rX.out;have zzU:PA.flatten.length<=8000:=by have:=congrArg List.length NX;rw[a6]at this;omega
        have hJ:∀W,zp wr.heap.size wr W->zy prog 86 #[zi (za ⟨G7,0,zh⟩) t c7,zn .i64 3] W λe w'=>∃v,e=.returned v/\(eX R0.heap.size (λb=>R0.heap.size<=b) w' v NJ/\zp W.heap.size W w'):=by
         intro W hW;have zzV:Wq (λb=>R0.heap.size<=b) W G7 0 PA pv7:=⟨fR Dd.lt hW.size,λj hj=>by rw[World.cell?_of_block (w:=wr) (hW.block G7 Dd.lt)];exact Dd.BI j hj,λj hj=>(Dd.nds j hj).below hW,Dd.pos⟩;have h9:=zkh (c:=c7) 3 W zzV (by omega) (by omega);rw[NX,<-dz]at h9;have Fj:=hW.size;refine h9.mono ?_;rintro e w' ⟨v,rfl,hN,hb⟩;refine⟨v,rfl,?_,hb⟩;obtain⟨sv,ho,hr⟩:=hN;exact⟨sv,zkC ho (by omega),λj hj=>(hr j hj).mono λb hb _=>⟨hb.1.1,hb.2⟩⟩
        have HJ:=ah hJ;have HNJ:=ah Se;rw[<-dz];clear hJ NX Se Dd NQ HT zzU;obtain⟨LJ,hLJ⟩:∃LJ,LJ=NJ.length:=⟨_,rfl⟩;have z0:=Hz.out wr Su;generalize hGI:((g1+1:Nat):Int)=GI at z0;have U6:=ah hGI;have J6:=ah hLJ;have zzR:0<LJ:=by omega
        have zBY:LJ<=8000:=by omega
        clear hGI hLJ dz zzT zzS;have dR:∀W,zp wr.heap.size wr W->W.cell? ⟨G,O+k*5+3,zh⟩=za (zn .i64 GI):=λW hW=>by rw[<-U6.out];exact Hz.out W (bi Su (by omega) hW)
        have Hz2:=ah dR;clear dR;go_wp2
        go_region_law ((first
         |(refine zru (by rfl) 86 #[.tmp 53,.const (zn .i64 3)] #[159,3] (by rfl) #[zi (za ⟨G7,0,zh⟩) t c7,zn .i64 3] (by first|rfl|kernel_rfl|simp[Act.eval]) _ (zoy _ _) (HJ.out _ (by first|exact(Below.refl _ _)|exact(Below.refl _ _).drew|exact((Below.refl _ _).drew.alloc (ax _) _)|exact(aC).drew|exact(aC))) ?_;rintro v7 w7 ⟨NV,iC⟩;have Od:zp wr.heap.size wr w7:=(by first|exact iC|exact(bi (Below.refl _ _).drew (ax _) iC)|exact(bi ((Below.refl _ _).drew.alloc (ax _) _) (by simp) iC)|exact(bi (aC).drew (by simp) iC)|exact(bi (aC) (by simp) iC));have z7:=Hz2.out w7 Od;have hex:∃g7 c8,v7=zi (za ⟨g7,0,zh⟩) LJ c8:=(by obtain⟨sv,ho,_⟩:=id NV;obtain⟨g7,c8,e,_⟩:=ho.form (by rw[<-J6.out];exact zzR);exact⟨g7,c8,by rw[J6.out];exact e⟩);obtain⟨g7,c8,ZA⟩:=hex;subst ZA;have pP:R0.heap.size<=g7:=(by obtain⟨sv,ho,_⟩:=id NV;exact(dL ho rfl).1);have Zk:=Od.size)
         |(refine zhz (by rfl) (.tmp 54) (.tmp 61) (by rfl) R0.heap.size (λb=>R0.heap.size<=b) (zi (za ⟨g7,0,zh⟩) LJ c8) NJ (by rfl) (eX.below NV (aC)) w7.heap.size (KE (g1+1)) (zi zh 0 0) (by rfl) (by rw[<-U6.out];exact aU _ _) (fX.nil _ _) (by rw[<-J6.out];omega) (by simp;omega) ?_;intro g8 zzy w8 NW RV;rw[<-J6.out]at NW ⊢;have fU:zp R0.heap.size R0 w8:=((bi dS hsz Od).alloc (by omega) _).grown RV (by simp;omega) (λk hk=>by simp[Value.ownBlock]at hk;omega))
         |(refine zhz (by rfl) (.tmp 54) (.tmp 61) (by rfl) R0.heap.size (λb=>R0.heap.size<=b) (zi (za ⟨g7,0,zh⟩) LJ c8) NJ (by rfl) NV wr.heap.size (KE (g1+1)) (zi zh 0 0) (by rfl) (aY (by rw[<-U6.out];exact P7 (aU wr _)) iC) (fX.nil _ _) (by rw[<-J6.out];omega) (by omega) ?_;intro g8 zzy w8 NW RV;rw[<-J6.out]at NW ⊢;have fU:zp R0.heap.size R0 w8:=(bi dS hsz Od).grown RV (by omega) (λk hk=>by simp[Value.ownBlock]at hk;omega))
         |fail))
        all_goals
         have HN8:=ah NW;clear NW RV NV iC Od z7 z0;go_wp2
         go_meet
         case rel=>exact⟨by rw[<-hKJ],by rw[zvJ.out,<-HNJ.out];exact HN8,fU⟩
  obtain⟨rfl,kS,bN⟩:=hcut;have zwU:=bi hb hs bN;have yN:=bN.size;have K6:=CJ.out wc zwU;have XI:=Ug eO.out;have hFO:kR w.heap.size wc u3 P1:=kR.below HO.out bN;have zw6:∀b,u3.ownBlock=za b->w.heap.size<=b/\b<wr.heap.size:=by
   intro b hb;obtain⟨pv,ho,_⟩:=HO.out;exact dL ho hb
  have HFO:=ah hFO;have Ra:=ah zw6;have zxt:l.length=n0:=mF.out.symm;have J8:=ah zxt;have zAA:((k+m:Nat):Int)=(k:Int)+(m:Int):=by omega
  have tU:f.length=m\/f.length=m+1:=by
   rcases VL.out with ⟨e,_⟩|⟨rp,_,e,_⟩
   ·left;rw[e,HM.out]
   ·right;rw[e,HM.out];simp
  have yM:∀k2,k2=k+f.length->SqS l g g' P k2 (a++f) r2 (P1++[N]) P3 g2:=by
   intro k2 bJ;obtain⟨e1,e2,e3,e4,e5⟩:=HQ.out;have ot:Gr 1 g1 f 0 N g2:=by
    rcases VL.out with ⟨e,e'⟩|⟨rp,Dy,e,e'⟩
    ·rw[e,e'];exact .bare eO.out
    ·rw[e,e'];exact .jX eO.out Dy
   exact⟨by rw[e1,HR.out];simp,by rw[bJ,e2];simp,Bi.out,by rw[e4,nA.out];simp,by rw[zoO ot,e5,rN];omega⟩
  have Hsq:=ah yM;have Hfl:=ah tU;clear hFO zw6 zxt tU yM zAA;rcases VL.out with ⟨hf,NY⟩|⟨rp,Dy,hf,NY⟩
  ·obtain⟨KX,hKX,E4⟩:∃KX:Int,(KX==114)=false/\zy prog 67 #[zi (za ⟨G,O,zh⟩) n0 c,zn .i64 ((k+m:Nat):Int)] wc λe w'=>e=.returned (.int .u8 KX)/\w'=wc:=by
    by_cases vb:k+m<n0
    ·have bJ:aZ l (k+m)=aZ r2 0:=by
      have e1:l=(a++f)++r2:=by rw[HQ.out.e,HR.out];simp
      have e2:k+m=(a++f).length+0:=by rw[a6,<-HQ.out.k,hf,<-HM.out];rfl
      rw[e1,e2,Gg]
     have sF:r2≠[]:=by
      intro e;have:=congrArg List.length (show l=(a++f)++r2 by rw[HQ.out.e,HR.out];simp);rw[e,Gx,a6,<-HQ.out.k,hf,<-HM.out,J8.out]at this;omega
     have zAy:=(zsp Bi.out).resolve_left sF;have:=TF (c:=c) wc K6 (k:=k+m) (ck:=((k+m:Nat):Int)) (by rw[J8.out];exact vb) rfl;rw[J8.out]at this;refine⟨_,?_,this⟩;rw[bJ];rcases zAy with e|e<;>rw[e]<;>rfl
    ·exact⟨46,by decide,TW wc (.inr (by omega))⟩
   have KZ:fT (λb=>w.heap.size<=b/\u3.ownBlock≠za b) wc u5 N0:=eX.to kS.out XI (λb hb _=>by
    have aL:wr.heap.size<=b:=by
     rcases hb with hb|hb
     ·obtain⟨sv,ho,_⟩:=kS.out;exact(dL ho hb).1
     ·exact hb
    exact⟨by omega,λe=>by have:=(Ra.out b e).2;omega⟩)
   obtain⟨b5,c5,_,AK,_⟩:=id KZ;subst AK;have G4:=ah KZ;have Vi:=ah NY;have Hf:=ah hf;clear KZ NY hf K6 kS;generalize KQ:N0.length=NL at *
   go_wp2_with fail
   refine E4.mono ?_;rintro e w2 ⟨rfl,hw⟩;rw[hw];clear hw w2 E4
   go_wp2_with (at_builtin;refine zeP rfl (.tmp 96) (.tmp 98) rfl w.heap.size u3 (zi (za ⟨b5,0,zh⟩) NL c5) P1 N0 rfl rfl HFO.out rfl G4.out (by omega) (by omega) (by omega) ?_;intro g' cap' w4 nI cU kc)
   have bZ:zp w.heap.size w w4:=zwU.grown cU (by omega) (λk hk=>(Ra.out k hk).1);have HF4:=ah nI;clear nI cU kc;go_wp2
   go_roundw
   case rel=>exact⟨k+m,a++f,r2,P1++[N],P3,g2,Hsq.out _ (by rw[Hf.out,<-HM.out]),by go_num,bZ,by rw[Vi.out];exact HF4⟩
   case measure=>simp[intOf];omega
  ·have vb:k+m<n0:=by
    have:=congrArg List.length (show l=(a++f)++r2 by rw[HQ.out.e,HR.out];simp);rw[a6,a6,<-HQ.out.k,hf,a6,<-HM.out,J8.out]at this;simp at this;omega
   have mb:l.getD (k+m) jb=rp:=by
    have e1:l=(a++f0)++(rp::r2):=by rw[HQ.out.e,HR.out,hf];simp
    have e2:k+m=(a++f0).length+0:=by rw[a6,<-HQ.out.k,<-HM.out];rfl
    rw[e1,e2,zgR];rfl
   have mf:aZ l (k+m)=4:=by unfold aZ;rw[mb];exact Dy
   have SG:k+m<l.length:=by rw[J8.out];exact vb
   have E4:=TF (c:=c) wc K6 (k:=k+m) (ck:=((k+m:Nat):Int)) SG rfl;rw[J8.out,mf]at E4;have E4:zy prog 67 #[zi (za ⟨G,O,zh⟩) n0 c,zn .i64 ((k+m:Nat):Int)] wc λe w'=>e=.returned (.int .u8 114)/\w'=wc:=E4
   have z3:=K6.Tj SG;have z4:=K6.zyj SG;have hms:mS g l (k+m)=rp.mn:=by unfold mS;rw[ab (by omega),mb]
   rw[hms]at z3;rw[mb]at z4;generalize hRM:rp.mn=RM at *;generalize hRX:rp.mx=RX at *;have zCx:((k+m:Nat):Int)<(n0:Int):=by omega
   have zAh:∃g5 c5,u5=zi (za ⟨g5,0,zh⟩) N0.length c5:=by
    obtain⟨sv,ho,_⟩:=kS.out;obtain⟨g5,c5,e,_⟩:=ho.form XI;exact⟨g5,c5,e⟩
   obtain⟨b5,c5,AK⟩:=zAh;subst AK;have Vi:=ah NY;have Hf:=ah hf;have pW:wr.heap.size<=b5:=by
    obtain⟨sv,ho,_⟩:=kS.out;exact(dL ho rfl).1
   clear NY hf K6 mb mf hms SG hRM hRX;generalize hKM:k+m=KM at *;obtain⟨NL,KQ⟩:∃NL,NL=N0.length:=⟨_,rfl⟩;rw[<-KQ]at XI kF ⊢;have zyJ:zw (eX wr.heap.size (λb=>wr.heap.size<=b) wc (zi (za ⟨b5,0,zh⟩) NL c5) N0):=by rw[KQ];exact kS
   have M2:=ah KQ;clear KQ kS
   go_wp2_with fail
   refine E4.mono ?_;rintro e w2 ⟨rfl,hw⟩;rw[hw];clear hw w2 E4;go_wp2
   go_region_law ((refine zhz (by rfl) (.tmp 80) (.tmp 92) (by rfl) wr.heap.size (λb=>wr.heap.size<=b) (zi (za ⟨b5,0,zh⟩) NL c5) N0 (by rfl) (eX.below zyJ.out (by first|exact((Below.refl _ _).drew.alloc (ax _) _)|exact(aC).drew|exact(aC))) wc.heap.size (Jj RM RX) (zi zh 0 0) (by rfl) (by first|exact aU _ _|exact P7 (aU _ _)) (fX.nil _ _) (by rw[<-M2.out];omega) (by simp;omega) ?_;intro g' cap' w4 jq cU;rw[<-M2.out]at jq ⊢))
   all_goals
    have bZ:zp wr.heap.size wr w4:=by
     first
     |exact((bN.drew).alloc (by simp;omega) _).grown cU (by simp;omega) (λk hk=>by simp[Value.ownBlock]at hk;omega)
     |exact((bN.alloc (by omega) _).drew).grown cU (by simp;omega) (λk hk=>by simp[Value.ownBlock]at hk;omega)
     |exact(bN.alloc (by omega) _).grown cU (by simp;omega) (λk hk=>by simp[Value.ownBlock]at hk;omega)
    have KZ:fT (λb=>w.heap.size<=b/\u3.ownBlock≠za b) w4 (zi (za ⟨g',0,zh⟩) (NL+1) cap') (N0++[Jj RM RX]):=jq.to (by simp) (λb hb _=>by
     have aL:wr.heap.size<=b:=by
      rcases hb with hb|hb
      ·obtain⟨sv,ho,_⟩:=jq;exact(dL ho hb).1
      ·exact hb
     exact⟨by omega,λe=>by have:=(Ra.out b e).2;omega⟩)
    have G4:=ah KZ;have nJ:kR w.heap.size w4 u3 P1:=kR.below HO.out bZ;have JY:=ah nJ;have vg:=bZ.size;clear KZ nJ jq cU z3 z4
    go_wp2_with (at_builtin;refine zeP rfl (.tmp 96) (.tmp 98) rfl w.heap.size u3 (zi (za ⟨g',0,zh⟩) (NL+1) cap') P1 (N0++[Jj RM RX]) rfl rfl JY.out rfl G4.out (by simp) (by omega) (by omega) ?_;intro g6 Rw w6 uV If Rp)
    have gM:zp w.heap.size w w6:=(bi hb hs bZ).grown If (by omega) (λk hk=>(Ra.out k hk).1);have U4:=ah uV;clear uV If Rp;go_wp2
    go_roundw
    case rel=>exact⟨KM+1,a++f,r2,P1++[N],P3,g2,Hsq.out _ (by rw[Hf.out,a6,<-HM.out,<-hKM];rfl),by go_num,gM,by rw[Vi.out];exact U4⟩
    case measure=>simp[intOf];omega
theorem zki:∀(M:Nat) (G O g c:Nat) (l:List Tok) (N:List aI) (g':Nat) (q:Nat->Nat) (w:zx),l.length<=M->CA g l N g'->gK w G O g l q->l.length<=2000->l.length<=c->c<=9223372036854775807->zy prog 71 #[zi (za ⟨G,O,zh⟩) l.length c] w (Rk w N)
 |0,G,O,g,c,l,N,g',q,w,hM,hA,h,hl,hc,dN=>by
  obtain⟨n,ns,hG,rfl⟩:=hA;exact absurd (qj (Nat.le_zero.1 hM)) (xG hG)
 |M+1,G,O,g,c,l,N,g',q,w,hM,hA,h,hl,hc,dN=>by
  obtain⟨n,ns,hG,rfl⟩:=hA;exact znE w hG h hl hc dN λO2 g2 c2 l2 N2 g3 q2 W h2 Xj N5 h3 h4=>zki M G O2 g2 c2 l2 N2 g3 q2 W (by omega) Xj N5 (by omega) h3 h4
theorem zqW(w:zx)(hA:CA g l N g')(h:gK w G O g l q)(hl:l.length<=2000)(hc:l.length<=c)(dN:c<=9223372036854775807):zy prog 71 #[zi (za ⟨G,O,zh⟩) l.length c] w (Rk w N):=
 zki l.length G O g c l N g' q w (ax _) hA h hl hc dN
end Go.Proofs.Ytfajjdgkiilhfaa
