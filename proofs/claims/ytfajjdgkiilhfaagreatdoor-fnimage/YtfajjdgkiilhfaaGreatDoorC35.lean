import Derived.Test.YtfajjdgkiilhfaaGreatDoorC34
import Derived.Deep.Cut
import Derived.Deep.CutRange
namespace Go.Proofs.YtfajjdgkiilhfaaGreatDoor
open Proofs.Tryz
open Option renaming some->za,none->zf
open Value renaming slice->zg,int->zh
open RowKit renaming Below->zi,Hid->zj
open Go renaming World->zk,Calls->zl
set_option maxHeartbeats 8000000
set_option maxRecDepth 100000
open Go.RowKit
attribute [local go_sem ↓] wp_at_zero wp_at_succ
variable {n s g g' G O c:Nat}{l f:List Tok}{ns N:List aC}{q:Nat -> Nat}
theorem ah{p:Prop}(h:p):zj p:=h
theorem zlH{w:zk}{base Mt size:Nat}{e:TypeId}{v:Value}{xs:List Value}(h:w.ownsRow base e size v n xs)(hb:Mt<=base):w.ownsRow Mt e size v n xs:=by
 refine⟨h.1,?_⟩;rcases h.2 with h|⟨g,cap,aZ,hv,hg,r⟩
 ·exact .inl h
 ·exact .inr ⟨g,cap,aZ,hv,cY hb hg,r⟩
theorem zmM(h:Gr s g l n ns g'):aS l 0=0\/aS l 0=1:=by
 induction h with
 |atom hk=>exact .inl hk
 |dX ho _ _ _=>exact .inr ho
 |bare _ ih=>exact ih
 |jI h _ ih=>rw[wI _ (pC.2 (wP h))];exact ih
 |one _ ih=>exact ih
 |more h _ ih _=>rw[wI _ (pC.2 (wP h))];exact ih
 |eH _ ih=>exact ih
 |alts h _ _ ih _=>rw[wI _ (pC.2 (wP h))];exact ih
theorem zud{r:List Tok}{P:List (List aC)}(h:Fs g r P g'):r=[]\/aS r 0=0\/aS r 0=1:=by
 cases h with
 |nil=>exact .inl rfl
 |cons h _=>right;rw[wI _ (pC.2 (wP h))];exact zmM h
theorem zuf(h:Gr s g f n N g')(hs:s=1):∃f0 N0,Gr 0 g f0 0 N0 g'/\((f=f0/\N=N0)\/∃rp:Tok,rp.kind=4/\f=f0++[rp]/\N=N0++[H6 rp.mn rp.mx]):=by
 cases h with
 |atom|dX|one|more|eH|alts=>omega
 |bare h=>exact⟨_,_,h,.inl ⟨rfl,rfl⟩⟩
 |jI h hr=>exact⟨_,_,h,.inr ⟨_,hr,rfl,rfl⟩⟩
theorem zuh(h:Gr s g f n N g')(hs:s=0):(∃x:Tok,x.kind=0/\f=[x]/\N=[Oj x.set]/\g'=g)\/∃(o cl:Tok) (l:List Tok) (ns:List aC) (m:Nat),o.kind=1/\cl.kind=2/\f=o::(l++[cl])/\Gr 3 (g+1) l (m+1) ns g'/\N=ns++List.replicate m F9++[Js (g+1)]:=by
 cases h with
 |bare|jI|one|more|eH|alts=>omega
 |atom hk=>exact .inl ⟨_,hk,rfl,rfl,rfl⟩
 |dX ho h hc=>exact .inr ⟨_,_,_,_,_,ho,hc,rfl,h,rfl⟩
def Qq(w:zk)(N:List aC)(e:Ending)(w':zk):Prop:=∃v,e=.returned v/\fU (λb=>w.heap.size<=b) w' v N/\zi w.heap.size w w'
theorem zp7(xs:Array Value)(w:zk):(callFunc 97 xs).run prog w=.ok (.enter 97 xs) w:=by kernel_rfl
structure SqS(l:List Tok)(g g':Nat)(P:List (List aC))(k:Nat)(a r:List Tok)(P1 P2:List (List aC))(g1:Nat):Prop where
 e:l=a++r
 k:k=a.length
 fs:Fs g1 r P2 g'
 p:P=P1++P2
 num:g1=g+dh a a.length
theorem zo2(w:zk)(hG:Gr 2 g l (n+1) ns g')(h:gP w G O g l q)(hl:l.length<=2000)(iz:l.length<=c)(jE:c<=9223372036854775807)
  (zzp:∀(O2 g2 c2:Nat) (l2:List Tok) (N2:List aC) (g3:Nat) (q2:Nat->Nat) (W:zk),l2.length<l.length->Bs g2 l2 N2 g3->gP W G O2 g2 l2 q2->l2.length<=c2->c2<=9223372036854775807->zl prog 85 #[zg (za ⟨G,O2,zf⟩) l2.length c2] W (Qq W N2)):
  zl prog 85 #[zg (za ⟨G,O,zf⟩) l.length c] w (Qq w (ns++List.replicate n tX)):=by
 obtain⟨P,hFs,hPn,WV⟩:=zvS hG rfl;have WL:=(Uh hG).2 (aq _);obtain⟨n0,zD⟩:∃n,n=l.length:=⟨_,rfl⟩;have kA:n0<=2000:=by omega
 have nH:n0<=c:=by omega
 have zBt:(n0:Int)<=(c:Int):=by omega
 have Cg:(c:Int)<=9223372036854775807:=by omega
 have mF:=ah zD;have HL:=ah hl;have HPn:=ah hPn;have HPf:=ah WV;have hP4:P.length<=4000:=by omega
 have zb:P.flatten.length<=4000:=by rw[WV];omega
 have HG:=ah hG;have zAa:=ah zzp;rw[<-zD];clear zD iz jE hl hPn WV hG zzp WL
 go_enter func85,ntmps85
 go_wp2
 go_loopw [3,4] (λfv kv wr=>∃(k:Nat) (a r:List Tok) (P1 P2:List (List aC)) (g1:Nat),zj (SqS l g g' P k a r P1 P2 g1)/\kv=zh .i64 (k:Int)/\zi w.heap.size w wr/\zj (kN w.heap.size wr fv P1)) (λ_ kv _=>n0-(intOf kv).toNat)
 case atStart=>exact⟨0,[],l,[],P,g,⟨rfl,rfl,hFs,rfl,rfl⟩,rfl,ax,kN.new w _ _ (aq _) rfl⟩
 case round=>
  obtain⟨k,a,r,P1,P2,g1,HQ,rfl,hb,HO⟩:=hrel;have hs:=hb.size;have dY:k+r.length=n0:=by have:=HQ.out.k;have:=mF.out;have:=congrArg List.length HQ.out.e;simp at this;omega
  have MR:P1.length+P2.length=P.length:=by have:=congrArg List.length HQ.out.p;simp at this;omega
  by_cases hlt:k<n0
  case neg=>
   have h1:¬(k:Int)<(n0:Int):=by omega
   have NN:r=[]:=qV (by omega);have hp:P1=P/\0<P.length:=by
    have h1:=HQ.out.fs;rw[NN]at h1;have h2:=HQ.out.p;have h3:=HPn.out;cases fO:P2 with
    |nil=>rw[fO]at h2;exact⟨by rw[h2];simp,by omega⟩
    |cons N P2=>
     rw[fO]at h1;generalize he:([]:List Tok)=r0 at h1;cases h1 with
     |cons hg _=>
      have:=congrArg List.length he;have:=pC.2 (wP hg);simp at *;omega
   obtain⟨rfl,hp0⟩:=hp;obtain⟨GF,cF,pvF,hfv,B9⟩:=HO.out.to hp0;subst hfv;have hJ:=zlk (c:=cF) 2 wr B9 (by omega) (by omega);clear dY MR NN;have HJ:zj (P1.flatten++List.replicate (P1.length-1) (Bf 2)=ns++List.replicate n tX):=by show _=_;rw[HPf.out,HPn.out];rfl
   generalize P1.length=PL at *
   go_wp2_with fail
   refine hJ.mono ?_;rintro e w2 ⟨v,rfl,hN,aB⟩;rw[HJ.out]at hN;have oJ:0<(ns++List.replicate n tX).length:=by have:=TG HG.out;simp;omega
   have hV:=hN.to oJ (U':=λb=>w.heap.size<=b) (λb hb _=>by
    rcases hb with hb|hb
    ·obtain⟨sv,ho,_⟩:=hN;have:=(dU ho hb).1;omega
    ·exact hb.1)
   go_wp2;go_ret;exact⟨v,rfl,hV,aH hb hs aB⟩
  have h1:(k:Int)<(n0:Int):=by omega
  obtain⟨f,r2,N,P3,g2,hr,fO,WJ,hF2⟩:∃f r2 N P3 g2,r=f++r2/\P2=N::P3/\Gr 1 g1 f 0 N g2/\Fs g2 r2 P3 g':=by
   have h1:=HQ.out.fs;cases h1 with
   |nil=>simp at dY;omega
   |cons hg hf=>exact⟨_,_,_,_,_,rfl,rfl,hg,hf⟩
  obtain⟨f0,N0,zd,XF⟩:=zuf WJ rfl;obtain⟨m,hm⟩:∃m,m=f0.length:=⟨_,rfl⟩;have hm0:0<m:=by rw[hm];exact pC.2 (wP zd)
  obtain⟨r3,Cv⟩:∃r3,r=f0++r3:=by
   rcases XF with ⟨e,_⟩|⟨rp,_,e,_⟩
   ·exact⟨r2,by rw[hr,e]⟩
   ·exact⟨rp::r2,by rw[hr,e];simp⟩
  have EA:k+m<=n0:=by have:=congrArg List.length Cv;simp at this;omega
  have ky:N0.length<=4000:=by have:=(Uh zd).1 (by omega);omega
  have zC1:P1.length+1<=P.length:=by rw[fO]at MR;simp at MR;omega
  have Rc:∀W,zi w.heap.size w W->gP W G O g l q:=λW hW=>h.below hW
  have Cb:∀W,zi w.heap.size w W->gP W G (O+k*5) g1 r (λj=>q (k+j)):=λW hW=>by
   have h2:=Rc W hW;rw[HQ.out.e,show r=r++[] by simp]at h2;have:=h2.sub;rw[<-HQ.out.num,<-HQ.out.k]at this;exact this
  have BI:=ah Rc;have P7:=ah Cb;have zy6:k<l.length:=by have:=mF.out;omega
  have cC:aS l k=aS f0 0:=by
   rw[HQ.out.e,HQ.out.k,show a.length=a.length+0 from rfl,Fc,Cv,wI _ (pC.2 (wP zd))]
  have c0:=(Rc _ (hb.alloc hs (.cells #[] 135))).CD zy6;rw[cC]at c0;have tE:aS f0 0<7:=by rcases zmM zd with e|e<;>omega
  have e1:(kB (aS f0 0)==40)=decide (aS f0 0=1):=Dk tE 1 (by omega);generalize JA:kB (aS f0 0)=KB at c0 e1;generalize hbK:decide (aS f0 0=1)=bK at e1;have HE:zj (r=f0++r3):=Cv;have HR:zj (r=f++r2):=hr;have qp:=ah fO;have eR:=ah zd;have Vr:=ah XF;have HM:=ah hm;have HbK:=ah hbK;have LR:=ah hF2;have HKL:=ah dY;clear Rc Cb zy6 cC tE JA hbK Cv hr fO zd XF hm WJ hF2 dY MR
  go_upto_region 5 with fail
  obtain⟨W1,cZ⟩:∃W1,W1=wr.alloc (.cells #[] 135):=⟨_,rfl⟩;have Eg:e8 wr.heap.size (λb=>wr.heap.size<=b) W1 (zg (za ⟨wr.heap.size,0,zf⟩) 0 0) []:=by rw[cZ];exact e8.new wr _ _ _ (aq _) rfl
  have dA:zi wr.heap.size wr W1:=by rw[cZ];exact ax
  have hsW:wr.heap.size<W1.heap.size:=by rw[cZ];simp
  rw[<-cZ]at c0 ⊢;clear cZ
  go_cut [21] from 15 to 20 (λv wx=>v=.bool bK/\wx=W1)
  case first=>
   go_wp2
   go_meet
   case rel=>exact⟨rfl,rfl⟩
  obtain⟨rfl,xV⟩:=hcut;subst xV
  rename_i Jz
  refine Jz _ _ ?_;have qo:=ah Eg;clear Eg e1
  go_cut [4,5] from 15 to 75 (λkv fv wx=>kv=zh .i64 ((k+m:Nat):Int)/\zj (e8 wr.heap.size (λb=>wr.heap.size<=b) wx fv N0)/\zi wr.heap.size wr wx)
  case first=>
   rcases zuh eR.out rfl with ⟨x,lM,pe,Q5,_⟩|⟨o,cl,li,nsi,mi,ho,aV,pe,MJ,Q5⟩
   ·have aD:bK=false:=by rw[<-HbK.out,pe];simp[aS,lM]
    subst aD;have oI:m=1:=by rw[HM.out,pe];rfl
    subst oI;have JL:=P7.out wc (aH hb hs dA);have sw:0<r.length:=by rw[HE.out,pe];simp
    have hx:r.getD 0 iP=x:=by rw[HE.out,pe];rfl
    have c2:wc.cell? ⟨G,O+k*5+2,zf⟩=za (zg (za ⟨q (k+0),0,zf⟩) 256 256):=by
     have c2:=JL.zzP sw;rw[hx,Nat.zero_mul,Aq]at c2;rw[c2];unfold CJ;rw[af lM]
    have Wx:=JL.set 0 sw (by unfold aS;rw[hx];exact lM);rw[hx]at Wx;generalize q (k+0)=q0 at c2 Wx
    go_wp2_with fail
    refine(zmZ wc Wx).mono ?_;rintro e w2 ⟨rv,rfl,Q9,b2⟩;have Ra:gu (λb=>wc.heap.size<=b) w2 rv (ix x.set 256):=Q9.to λb hb=>(dU Q9 hb).1
    obtain⟨ao,cp,hrv,_⟩:=id Ra;subst hrv;have bF:=b2.size;have hND:=e8.below (e8.below qo.out b2) (W':=w2.alloc (.cells #[zh .i64 1,.slice ao (ix x.set 256).length cp,zh .i64 0,zh .i64 0,zh .i64 0] 135)) (ax);have zym:gu (λb=>wr.heap.size<=b/\(Value.slice (za ⟨wr.heap.size,0,zf⟩) 0 0).ownBlock≠za b) (w2.alloc (.cells #[zh .i64 1,.slice ao (ix x.set 256).length cp,zh .i64 0,zh .i64 0,zh .i64 0] 135)) (.slice ao (ix x.set 256).length cp) (ix x.set 256):=by
     refine(Ra.keep (W':=w2.alloc _) (by simp) λb _ hl=>Below.heap_alloc _ _ _ hl).mono λb hb _=>⟨by have:=hb;omega,λe=>?_⟩
     have e2:wr.heap.size=b:=by simpa [Value.ownBlock]using e
     have:=hb;omega
    have HND:=ah hND;have zAb:=ah zym;have HRU:=ah Ra;have HRO:=ah Q9;clear hND zym Ra Q9;generalize hRL:(ix x.set 256).length=RL at *
    go_wp2_with (at_builtin;refine CO rfl (.tmp 64) (.tmp 72) rfl wr.heap.size (λb=>wr.heap.size<=b) (zg (za ⟨wr.heap.size,0,zf⟩) 0 0) [] rfl HND.out w2.heap.size (Oj x.set) (.slice ao RL cp) rfl (aJ _ _) zAb.out (by simp) (by simp;omega) ?_;intro g' cap' w4 je cX)
    have de:zi wr.heap.size wr w4:=(((aH dA dA.size b2).alloc (by omega) _).grown cX (by simp;omega) (λk hk=>by simp[Value.ownBlock]at hk;omega));have ur:=ah je;clear je cX;go_wp2
    go_meet
    case rel=>exact⟨by go_num,by rw[Q5];exact ur,de⟩
   ·have aD:bK=true:=by rw[<-HbK.out,pe];simp[aS,ho]
    subst aD;have hmL:m=li.length+2:=by rw[HM.out,pe];simp
    obtain⟨ts,PA,hAs,zyk,zyj⟩:=zvQ MJ rfl;have XE:=Iu MJ;have iK:=(Uh MJ).2 (by omega);have zBQ:0<li.length:=pC.2 (wP MJ);have oD:∀j,1<=j->j<m->0<aX r j:=by
     intro j h1 h2;rw[HE.out,A6 _ (by rw[<-HM.out];omega),pe,show j=j-1+1 by omega,zmN ho _ (by omega)];have:=XE.pre (j-1) (by omega);omega
    have zyJ:aX r m=0:=by
     rw[HE.out,A6 _ (by rw[<-HM.out];omega),HM.out,pe];exact(mC.dX ho aV XE).EZ
    have sw:r.length=n0-k:=by have:=HKL.out;omega
    have Si:m<=r.length:=by rw[HE.out,HM.out];simp
    have tJ:=aH hb hs dA;have JL:=P7.out wc tJ;have hD:∀(j:Nat) (z:Int),j<=m->z=j->zl prog 82 #[zg (za ⟨G,O+k*5,zf⟩) (n0-k) (c-k),zh .i64 z] wc λe w'=>e=.returned (zh .i64 (aX r j))/\w'=wc:=by
     intro j z hj hz;have:=KO (c:=c-k) wc JL (k:=j) (ck:=z) (by omega) hz (by omega);rw[sw]at this;exact this
    have HD:=ah hD;have zAo:=ah oD;have zAp:=ah zyJ;have HVw:=ah JL;have HAs:=ah hAs;have U8:=ah zyk;have zz8:=ah zyj;have Qe:=ah pe;have zxD:=ah Q5;have HML:=ah hmL;have Hgl:=ah iK;have i1:(k:Int)<=(n0:Int):=by omega
    have i2:(k:Int)<=(c:Int):=by omega
    have i3:(k:Int)<(c:Int):=by omega
    have i4:((n0:Int)-(k:Int)).toNat=n0-k:=by omega
    have i5:((c:Int)-(k:Int)).toNat=c-k:=by omega
    have i6:¬c-k=0:=by omega
    have Ka:2<m:=by omega
    clear hD oD zyJ JL hAs zyk zyj pe Q5 hmL sw Si XE iK MJ zBQ;go_wp2
    go_loop [6] (λev=>∃j:Nat,1<=j/\j<=m/\ev=zh .i64 ((k+j:Nat):Int)) (λev=>k+m-(intOf ev).toNat)
    case atStart=>exact⟨1,by omega,by omega,by go_num⟩
    case round=>
     obtain⟨j,se,iD,rfl⟩:=hrel;have hC:=HD.out j (((k+j:Nat):Int)-(k:Int)) iD (by omega);have i7:((k+j:Nat):Int)<=4000:=by omega
     by_cases hjm:j<m
     ·have hd:=zAo.out j se hjm;generalize hKJ:k+j=KJ at *;generalize aX r j=D at *
      go_wp2_with fail
      refine hC.mono ?_;rintro e w2 ⟨rfl,hw⟩;rw[hw];clear hw w2;go_wp2
      go_round
      case rel=>exact⟨j+1,by omega,by omega,by go_num⟩
      case measure=>simp[intOf];omega
     ·have hje:j=m:=by omega
      subst hje;rw[zAp.out]at hC;generalize hKJ:k+j=KJ at *
      go_wp2_with fail
      refine hC.mono ?_;rintro e w2 ⟨rfl,hw⟩;rw[hw];clear hw w2 hC
      go_wp2_with fail
      obtain⟨WI,MY⟩:∃WI,WI=wc.alloc (.cells #[] 113):=⟨_,rfl⟩;have hFI:kN wr.heap.size WI (zg (za ⟨wc.heap.size,0,zf⟩) 0 0) []:=by rw[MY];exact kN.new wc _ _ (by omega) rfl
      have Xt:zi wr.heap.size wr WI:=by rw[MY];exact dA.alloc (by omega) _
      have hsI:WI.heap.size=wc.heap.size+1:=by rw[MY];simp
      have Xh:∀W,zi w.heap.size w W->gP W G (O+(k+1)*5) (g1+1) li (λj=>q (k+(1+j))):=by
       intro W hW;have h2:=P7.out W hW;have e1:r=[o]++(li++([cl]++r3)):=by rw[HE.out,Qe.out];simp
       rw[e1]at h2;have h3:=h2.sub;rw[show [o].length=1 from rfl,zW,af ho,show O+k*5+1*5=O+(k+1)*5 by omega]at h3;exact h3
      have hz:∀W,zi w.heap.size w W->W.cell? ⟨G,O+k*5+3,zf⟩=za (zh .i64 ((g1+1:Nat):Int)):=by
       intro W hW;have h2:=P7.out W hW;have e1:r=o::(li++([cl]++r3)):=by rw[HE.out,Qe.out];simp
       have h3:=h2.SC (k:=0) (by rw[e1];simp);have h4:mS g1 r 0=((g1+1:Nat):Int):=by
        rw[e1];unfold mS;rw[af (show aS (o::(li++([cl]++r3))) 0=1 from ho)];show ((g1+(0+if aS (o::(li++([cl]++r3))) 0=1 then 1 else 0):Nat):Int)=_;rw[af (show aS (o::(li++([cl]++r3))) 0=1 from ho),iH]
       rw[h4,Nat.zero_mul,Aq]at h3;exact h3
      have Q1:li.length=KJ-1-(k+1):=by have:=HML.out;omega
      obtain⟨Ju,NY,G9⟩:=HAs.out.bj;have hS:=zi3 (c:=c-(k+1)) WI (Xh WI (aH hb hs Xt)) (by omega) (by omega) (by omega) (zqH Ju G9);rw[Q1]at hS;have NI:=zlJ Ju λt ht=>⟨(G9 t ht).1,(G9 t ht).2.1⟩
      rw[<-MY];have HS:=ah hS;have HVl:=ah Xh;have Hz:=ah hz;have HLI:=ah Q1;have Vz:=ah NI;have VF:=ah NY;have HFI:=ah hFI;clear hS Xh hz Q1 NI NY G9 Ju hFI MY;refine HS.out.mono ?_;rintro e w2 ⟨pv,rfl,ze,aB⟩;rw[Vz.out]at ze;have du:(iO 0 ts).length=PA.length:=by rw[TM];exact VF.out
      obtain⟨M,hM⟩:∃M,M=PA.length:=⟨_,rfl⟩;rw[du,<-hM]at ze;have JF:0<M:=by have:=U8.out;omega
      have hM2:M<=4000:=by have:=Hgl.out;have:=U8.out;have:=HLI.out;omega
      obtain⟨gp,cp,Yo,zBC,zBD⟩:=ze.form JF;subst Yo;have Es:∀t,t<M->w2.cell? ⟨gp,t,zf⟩=za (zM G (O+(k+1)*5) (c-(k+1)) ((iO 0 ts).getD t (0,0))):=by
       intro t ht;rw[ze.cellAt t (by omega),wV,bJ,bE (by omega)]
       rfl
      have Vl:=ah Es;have qn:=ah hM;have zBq:=aH Xt Xt.size aB;clear Es ze du hM;obtain⟨R0,WW⟩:∃R0,R0=wr:=⟨_,rfl⟩;subst WW;go_wp2
      go_loopw [7,43] (λiv xv wz=>∃t:Nat,t<=M/\xv=zh .i64 (t:Int)/\zi R0.heap.size R0 wz/\w2.heap.size<=wz.heap.size/\zj (kN R0.heap.size wz iv (PA.take t)/\iv.ownBlock≠za gp/\wz.heap[gp]?=w2.heap[gp]?)) (λ_ xv _=>M-(intOf xv).toNat)
      case atStart=>exact⟨0,by omega,rfl,zBq,aq _,⟨kN.below HFI.out aB,λe=>by simp[Value.ownBlock]at e;omega,rfl⟩⟩
      case round=>
       obtain⟨t,ht,rfl,ez,hwz,HT⟩:=hrel;have Rx:=aH hb hs ez;have hsz:=ez.size
       by_cases htM:t<M
       ·have htI:(t:Int)<(M:Int):=by omega
        have YE:t<PA.length:=by have:=qn.out;omega
        obtain⟨a2,t2,c2,EB,oJ,g3,Gl⟩:=HAs.out.at t YE;have c5:=Vl.out t htM;rw[oJ]at c5;have c5:wr.cell? ⟨gp,t,zf⟩=za (zg (za ⟨G,O+(k+1)*5+a2.length*5,zf⟩) t2.length (c-(k+1)-a2.length)):=by
         rw[World.cell?_of_block (w:=w2) HT.out.2.2,c5];unfold zM;rw[lV]
        have MV:=HVl.out wr Rx;rw[EB]at MV;have hV3:=MV.sub;have eE:a2.length+t2.length<=li.length:=by rw[EB];simp
        have fY:=HLI.out;have jp:=mF.out;have hC:=zAa.out _ _ (c-(k+1)-a2.length) t2 _ _ _ wr (by omega) Gl hV3 (by omega) (by omega);have hNp:0<(PA.getD t []).length:=by
         obtain⟨nn,nss,mR,e⟩:=Gl;rw[e,aQ];have:=TG mR;omega
        have eV:PA.take (t+1)=PA.take t++[PA.getD t []]:=by
         rw[oh YE,bJ,bE YE];rfl
        have F5:=ah eV;have CA:(PA.take t).length=t:=by rw[rP];omega
        generalize PA.getD t []=NT at *;generalize t2.length=T2 at *;generalize c-(k+1)-a2.length=C2 at *;generalize O+(k+1)*5+a2.length*5=O2 at *;clear MV hV3 EB oJ Gl eV fY jp eE
        go_wp2_with fail
        refine hC.mono ?_;rintro e w5 ⟨v5,rfl,Gt,cQ⟩;obtain⟨b5,c5x,s5,zH,r1,r2x,r3x,r4,r5,r6⟩:=id Gt;subst zH;have zyg:fU (λb=>R0.heap.size<=b/\u7.ownBlock≠za b) w5 (zg (za ⟨b5,0,zf⟩) NT.length c5x) NT:=Gt.mono λb hb _=>⟨by omega,λe=>by
         obtain⟨pv,ho,_⟩:=HT.out.1;have:=(dU ho e).2;omega⟩
        have HNU:=ah zyg;have zc:kN R0.heap.size w5 u7 (PA.take t):=kN.below HT.out.1 cQ;have UH:=ah zc;have hs5:=cQ.size;clear Gt zyg zc r5 r6 r1 r2x r3x hC c5;generalize zCZ:NT.length=NTL at *
        go_wp2_with (at_builtin;refine ZX rfl (.tmp 47) (.tmp 50) rfl R0.heap.size u7 (zg (za ⟨b5,0,zf⟩) NTL c5x) (PA.take t) NT rfl rfl UH.out rfl HNU.out (by omega) (by omega) (by omega) ?_;intro g6 Qy w6 Jw Gi Qv)
        have Sq:∀b,u7.ownBlock=za b->R0.heap.size<=b/\b<wr.heap.size:=λb e=>by
         obtain⟨pv,ho,_⟩:=HT.out.1;exact dU ho e
        have iu:zi R0.heap.size R0 w6:=(aH ez hsz cQ).grown Gi (by omega) (λk hk=>(Sq k hk).1);have zyS:w6.heap[gp]?=w2.heap[gp]?:=by
         rw[Gi.block gp (by omega) (λe=>HT.out.2.1 e.symm),cQ.block gp (by omega)];exact HT.out.2.2
        have R9:(Value.slice (za ⟨g6,0,zf⟩) ((PA.take t).length+1) Qy).ownBlock≠za gp:=λe=>by
         have e2:g6=gp:=by simpa [Value.ownBlock]using e
         subst e2;rcases Qv with h|h
         ·exact HT.out.2.1 h
         ·omega
        have NP:=Gi.size;rw[CA]at Jw R9;have UI:zj (kN R0.heap.size w6 (Value.slice (za ⟨g6,0,zf⟩) (t+1) Qy) (PA.take (t+1))/\(Value.slice (za ⟨g6,0,zf⟩) (t+1) Qy).ownBlock≠za gp/\w6.heap[gp]?=w2.heap[gp]?):=⟨by rw[F5.out];exact Jw,R9,zyS⟩;clear Jw Gi Qv R9 zyS Sq;go_wp2
        go_roundw
        case rel=>exact⟨t+1,by omega,by go_num,iu,by omega,UI⟩
        case measure=>simp[intOf];omega
       ·have zCd:t=M:=by omega
        subst zCd;have hFA:kN R0.heap.size wr u7 PA:=by
         have:=HT.out.1;rw[qn.out,sW]at this;exact this
        obtain⟨G7,c7,pv7,Sq,B9⟩:=hFA.to (by have:=qn.out;omega);subst Sq;have MP:PA.flatten++List.replicate (PA.length-1) (Bf 3)=nsi++List.replicate mi F9:=by rw[zz8.out,U8.out];rfl
        obtain⟨NJ,Q7⟩:∃NJ,NJ=nsi++List.replicate mi F9:=⟨_,rfl⟩;rw[<-Q7]at MP;have zBa:0<NJ.length:=by
         have hx:=B9.pos 0 (by have:=qn.out;omega);have Gj:=Zw PA (0+1);rw[zgp (by have:=qn.out;omega),aQ]at Gj;rw[<-MP,aQ];omega
        have zA9:NJ.length<=8000:=by have h9:=zxD.out;rw[<-Q7]at h9;have:=congrArg List.length h9;simp at this;omega
        have du:=qn.out;have zBb:PA.flatten.length<=8000:=by have:=congrArg List.length MP;rw[aQ]at this;omega
        have hJ:∀W,zi wr.heap.size wr W->zl prog 97 #[zg (za ⟨G7,0,zf⟩) t c7,zh .i64 3] W λe w'=>∃v,e=.returned v/\(e8 R0.heap.size (λb=>R0.heap.size<=b) w' v NJ/\zi W.heap.size W w'):=by
         intro W hW;have zBc:VK (λb=>R0.heap.size<=b) W G7 0 PA pv7:=⟨dR B9.lt hW.size,λj hj=>by rw[World.cell?_of_block (w:=wr) (hW.block G7 B9.lt)];exact B9.AJ j hj,λj hj=>(B9.nds j hj).below hW,B9.pos⟩;have h9:=zlk (c:=c7) 3 W zBc (by omega) (by omega);rw[MP,<-du]at h9;have hWs:=hW.size;refine h9.mono ?_;rintro e w' ⟨v,rfl,hN,hb⟩;refine⟨v,rfl,?_,hb⟩;obtain⟨sv,ho,hr⟩:=hN;exact⟨sv,zlH ho (by omega),λj hj=>(hr j hj).mono λb hb _=>⟨hb.1.1,hb.2⟩⟩
        have HJ:=ah hJ;have HNJ:=ah Q7;rw[<-du];clear hJ MP Q7 B9 hFA HT zBb;obtain⟨LJ,hLJ⟩:∃LJ,LJ=NJ.length:=⟨_,rfl⟩;have z0:=Hz.out wr Rx;generalize hGI:((g1+1:Nat):Int)=GI at z0;have UL:=ah hGI;have IX:=ah hLJ;have zA8:0<LJ:=by omega
        have zCY:LJ<=8000:=by omega
        clear hGI hLJ du zBa zA9;have cR:∀W,zi wr.heap.size wr W->W.cell? ⟨G,O+k*5+3,zf⟩=za (zh .i64 GI):=λW hW=>by rw[<-UL.out];exact Hz.out W (aH Rx (by omega) hW)
        have Ja:=ah cR;clear cR;go_wp2
        go_region_law ((first
         |(refine ztl (by rfl) 97 #[.tmp 53,.const (zh .i64 3)] #[165,3] (by rfl) #[zg (za ⟨G7,0,zf⟩) t c7,zh .i64 3] (by first|rfl|kernel_rfl|simp[Act.eval]) _ (zp7 _ _) (HJ.out _ (by first|exact(Below.refl _ _)|exact(Below.refl _ _).drew|exact((Below.refl _ _).drew.alloc (aq _) _)|exact(ax).drew|exact(ax))) ?_;rintro v7 w7 ⟨MN,ij⟩;have M5:zi wr.heap.size wr w7:=(by first|exact ij|exact(aH (Below.refl _ _).drew (aq _) ij)|exact(aH ((Below.refl _ _).drew.alloc (aq _) _) (by simp) ij)|exact(aH (ax).drew (by simp) ij)|exact(aH (ax) (by simp) ij));have z7:=Ja.out w7 M5;have hex:∃g7 c8,v7=zg (za ⟨g7,0,zf⟩) LJ c8:=(by obtain⟨sv,ho,_⟩:=id MN;obtain⟨g7,c8,e,_⟩:=ho.form (by rw[<-IX.out];exact zA8);exact⟨g7,c8,by rw[IX.out];exact e⟩);obtain⟨g7,c8,Kj⟩:=hex;subst Kj;have XL:R0.heap.size<=g7:=(by obtain⟨sv,ho,_⟩:=id MN;exact(dU ho rfl).1);have Yv:=M5.size)
         |(refine zij (by rfl) (.tmp 54) (.tmp 61) (by rfl) R0.heap.size (λb=>R0.heap.size<=b) (zg (za ⟨g7,0,zf⟩) LJ c8) NJ (by rfl) (e8.below MN (ax)) w7.heap.size (Js (g1+1)) (zg zf 0 0) (by rfl) (by rw[<-UL.out];exact aJ _ _) (gu.nil _ _) (by rw[<-IX.out];omega) (by simp;omega) ?_;intro g8 zAR w8 MO QO;rw[<-IX.out]at MO ⊢;have gQ:zi R0.heap.size R0 w8:=((aH ez hsz M5).alloc (by omega) _).grown QO (by simp;omega) (λk hk=>by simp[Value.ownBlock]at hk;omega))
         |(refine zij (by rfl) (.tmp 54) (.tmp 61) (by rfl) R0.heap.size (λb=>R0.heap.size<=b) (zg (za ⟨g7,0,zf⟩) LJ c8) NJ (by rfl) MN wr.heap.size (Js (g1+1)) (zg zf 0 0) (by rfl) (aT (by rw[<-UL.out];exact sL (aJ wr _)) ij) (gu.nil _ _) (by rw[<-IX.out];omega) (by omega) ?_;intro g8 zAR w8 MO QO;rw[<-IX.out]at MO ⊢;have gQ:zi R0.heap.size R0 w8:=(aH ez hsz M5).grown QO (by omega) (λk hk=>by simp[Value.ownBlock]at hk;omega))
         |fail))
        all_goals
         have HN8:=ah MO;clear MO QO MN ij M5 z7 z0;go_wp2
         go_meet
         case rel=>exact⟨by rw[<-hKJ],by rw[zxD.out,<-HNJ.out];exact HN8,gQ⟩
  obtain⟨rfl,mG,dk⟩:=hcut;have zyA:=aH hb hs dk;have xR:=dk.size;have JM:=BI.out wc zyA;have WU:=TG eR.out;have hFO:kN w.heap.size wc u3 P1:=kN.below HO.out dk;have zyO:∀b,u3.ownBlock=za b->w.heap.size<=b/\b<wr.heap.size:=by
   intro b hb;obtain⟨pv,ho,_⟩:=HO.out;exact dU ho hb
  have HFO:=ah hFO;have Qf:=ah zyO;have zy7:l.length=n0:=mF.out.symm;have IY:=ah zy7;have zBO:((k+m:Nat):Int)=(k:Int)+(m:Int):=by omega
  have rq:f.length=m\/f.length=m+1:=by
   rcases Vr.out with ⟨e,_⟩|⟨rp,_,e,_⟩
   ·left;rw[e,HM.out]
   ·right;rw[e,HM.out];simp
  have hsq:∀k2,k2=k+f.length->SqS l g g' P k2 (a++f) r2 (P1++[N]) P3 g2:=by
   intro k2 bu;obtain⟨e1,e2,e3,e4,e5⟩:=HQ.out;have pR:Gr 1 g1 f 0 N g2:=by
    rcases Vr.out with ⟨e,e'⟩|⟨rp,Cy,e,e'⟩
    ·rw[e,e'];exact .bare eR.out
    ·rw[e,e'];exact .jI eR.out Cy
   exact⟨by rw[e1,HR.out];simp,by rw[bu,e2];simp,LR.out,by rw[e4,qp.out];simp,by rw[zqx pR,e5,rJ];omega⟩
  have Hsq:=ah hsq;have Hfl:=ah rq;clear hFO zyO zy7 rq hsq zBO;rcases Vr.out with ⟨hf,MQ⟩|⟨rp,Cy,hf,MQ⟩
  ·obtain⟨KX,hKX,Ed⟩:∃KX:Int,(KX==114)=false/\zl prog 81 #[zg (za ⟨G,O,zf⟩) n0 c,zh .i64 ((k+m:Nat):Int)] wc λe w'=>e=.returned (.int .u8 KX)/\w'=wc:=by
    by_cases oF:k+m<n0
    ·have bu:aS l (k+m)=aS r2 0:=by
      have e1:l=(a++f)++r2:=by rw[HQ.out.e,HR.out];simp
      have e2:k+m=(a++f).length+0:=by rw[aQ,<-HQ.out.k,hf,<-HM.out];rfl
      rw[e1,e2,Fc]
     have sq:r2≠[]:=by
      intro e;have:=congrArg List.length (show l=(a++f)++r2 by rw[HQ.out.e,HR.out];simp);rw[e,List.append_nil,aQ,<-HQ.out.k,hf,<-HM.out,IY.out]at this;omega
     have zBL:=(zud LR.out).resolve_left sq;have:=Tn (c:=c) wc JM (k:=k+m) (ck:=((k+m:Nat):Int)) (by rw[IY.out];exact oF) rfl;rw[IY.out]at this;refine⟨_,?_,this⟩;rw[bu];rcases zBL with e|e<;>rw[e]<;>rfl
    ·exact⟨46,by decide,Ti wc (.inr (by omega))⟩
   have JK:fU (λb=>w.heap.size<=b/\u3.ownBlock≠za b) wc u5 N0:=e8.to mG.out WU (λb hb _=>by
    have aB:wr.heap.size<=b:=by
     rcases hb with hb|hb
     ·obtain⟨sv,ho,_⟩:=mG.out;exact(dU ho hb).1
     ·exact hb
    exact⟨by omega,λe=>by have:=(Qf.out b e).2;omega⟩)
   obtain⟨b5,c5,_,zH,_⟩:=id JK;subst zH;have F0:=ah JK;have I1:=ah MQ;have Hf:=ah hf;clear JK MQ hf JM mG;generalize JH:N0.length=NL at *
   go_wp2_with fail
   refine Ed.mono ?_;rintro e w2 ⟨rfl,hw⟩;rw[hw];clear hw w2 Ed
   go_wp2_with (at_builtin;refine ZX rfl (.tmp 96) (.tmp 98) rfl w.heap.size u3 (zg (za ⟨b5,0,zf⟩) NL c5) P1 N0 rfl rfl HFO.out rfl F0.out (by omega) (by omega) (by omega) ?_;intro g' cap' w4 zb cX jW)
   have de:zi w.heap.size w w4:=zyA.grown cX (by omega) (λk hk=>(Qf.out k hk).1);have HF4:=ah zb;clear zb cX jW;go_wp2
   go_roundw
   case rel=>exact⟨k+m,a++f,r2,P1++[N],P3,g2,Hsq.out _ (by rw[Hf.out,<-HM.out]),by go_num,de,by rw[I1.out];exact HF4⟩
   case measure=>simp[intOf];omega
  ·have oF:k+m<n0:=by
    have:=congrArg List.length (show l=(a++f)++r2 by rw[HQ.out.e,HR.out];simp);rw[aQ,aQ,<-HQ.out.k,hf,aQ,<-HM.out,IY.out]at this;simp at this;omega
   have fQ:l.getD (k+m) iP=rp:=by
    have e1:l=(a++f0)++(rp::r2):=by rw[HQ.out.e,HR.out,hf];simp
    have e2:k+m=(a++f0).length+0:=by rw[aQ,<-HQ.out.k,<-HM.out];rfl
    rw[e1,e2,zhx];rfl
   have jf:aS l (k+m)=4:=by unfold aS;rw[fQ];exact Cy
   have RG:k+m<l.length:=by rw[IY.out];exact oF
   have Ed:=Tn (c:=c) wc JM (k:=k+m) (ck:=((k+m:Nat):Int)) RG rfl;rw[IY.out,jf]at Ed;have Ed:zl prog 81 #[zg (za ⟨G,O,zf⟩) n0 c,zh .i64 ((k+m:Nat):Int)] wc λe w'=>e=.returned (.int .u8 114)/\w'=wc:=Ed
   have z3:=JM.SC RG;have z4:=JM.zzO RG;have hms:mS g l (k+m)=rp.mn:=by unfold mS;rw[ab (by omega),fQ]
   rw[hms]at z3;rw[fQ]at z4;generalize hRM:rp.mn=RM at *;generalize hRX:rp.mx=RX at *;have zDA:((k+m:Nat):Int)<(n0:Int):=by omega
   have zBx:∃g5 c5,u5=zg (za ⟨g5,0,zf⟩) N0.length c5:=by
    obtain⟨sv,ho,_⟩:=mG.out;obtain⟨g5,c5,e,_⟩:=ho.form WU;exact⟨g5,c5,e⟩
   obtain⟨b5,c5,zH⟩:=zBx;subst zH;have I1:=ah MQ;have Hf:=ah hf;have Kg:wr.heap.size<=b5:=by
    obtain⟨sv,ho,_⟩:=mG.out;exact(dU ho rfl).1
   clear MQ hf JM fQ jf hms RG hRM hRX;generalize hKM:k+m=KM at *;obtain⟨NL,JH⟩:∃NL,NL=N0.length:=⟨_,rfl⟩;rw[<-JH]at WU ky ⊢;have zz7:zj (e8 wr.heap.size (λb=>wr.heap.size<=b) wc (zg (za ⟨b5,0,zf⟩) NL c5) N0):=by rw[JH];exact mG
   have L9:=ah JH;clear JH mG
   go_wp2_with fail
   refine Ed.mono ?_;rintro e w2 ⟨rfl,hw⟩;rw[hw];clear hw w2 Ed;go_wp2
   go_region_law ((refine zij (by rfl) (.tmp 80) (.tmp 92) (by rfl) wr.heap.size (λb=>wr.heap.size<=b) (zg (za ⟨b5,0,zf⟩) NL c5) N0 (by rfl) (e8.below zz7.out (by first|exact((Below.refl _ _).drew.alloc (aq _) _)|exact(ax).drew|exact(ax))) wc.heap.size (H6 RM RX) (zg zf 0 0) (by rfl) (by first|exact aJ _ _|exact sL (aJ _ _)) (gu.nil _ _) (by rw[<-L9.out];omega) (by simp;omega) ?_;intro g' cap' w4 je cX;rw[<-L9.out]at je ⊢))
   all_goals
    have de:zi wr.heap.size wr w4:=by
     first
     |exact((dk.drew).alloc (by simp;omega) _).grown cX (by simp;omega) (λk hk=>by simp[Value.ownBlock]at hk;omega)
     |exact((dk.alloc (by omega) _).drew).grown cX (by simp;omega) (λk hk=>by simp[Value.ownBlock]at hk;omega)
     |exact(dk.alloc (by omega) _).grown cX (by simp;omega) (λk hk=>by simp[Value.ownBlock]at hk;omega)
    have JK:fU (λb=>w.heap.size<=b/\u3.ownBlock≠za b) w4 (zg (za ⟨g',0,zf⟩) (NL+1) cap') (N0++[H6 RM RX]):=je.to (by simp) (λb hb _=>by
     have aB:wr.heap.size<=b:=by
      rcases hb with hb|hb
      ·obtain⟨sv,ho,_⟩:=je;exact(dU ho hb).1
      ·exact hb
     exact⟨by omega,λe=>by have:=(Qf.out b e).2;omega⟩)
    have F0:=ah JK;have zc:kN w.heap.size w4 u3 P1:=kN.below HO.out de;have UH:=ah zc;have Sk:=de.size;clear JK zc je cX z3 z4
    go_wp2_with (at_builtin;refine ZX rfl (.tmp 96) (.tmp 98) rfl w.heap.size u3 (zg (za ⟨g',0,zf⟩) (NL+1) cap') P1 (N0++[H6 RM RX]) rfl rfl UH.out rfl F0.out (by simp) (by omega) (by omega) ?_;intro g6 Qy w6 Jw Gi Qv)
    have iu:zi w.heap.size w w6:=(aH hb hs de).grown Gi (by omega) (λk hk=>(Qf.out k hk).1);have UI:=ah Jw;clear Jw Gi Qv;go_wp2
    go_roundw
    case rel=>exact⟨KM+1,a++f,r2,P1++[N],P3,g2,Hsq.out _ (by rw[Hf.out,aQ,<-HM.out,<-hKM];rfl),by go_num,iu,by rw[I1.out];exact UI⟩
    case measure=>simp[intOf];omega
theorem zll:∀(M:Nat) (G O g c:Nat) (l:List Tok) (N:List aC) (g':Nat) (q:Nat->Nat) (w:zk),l.length<=M->Bs g l N g'->gP w G O g l q->l.length<=2000->l.length<=c->c<=9223372036854775807->zl prog 85 #[zg (za ⟨G,O,zf⟩) l.length c] w (Qq w N)
 |0,G,O,g,c,l,N,g',q,w,hM,hA,h,hl,hc,jE=>by
  obtain⟨n,ns,hG,rfl⟩:=hA;exact absurd (qV (Nat.le_zero.1 hM)) (wP hG)
 |M+1,G,O,g,c,l,N,g',q,w,hM,hA,h,hl,hc,jE=>by
  obtain⟨n,ns,hG,rfl⟩:=hA;exact zo2 w hG h hl hc jE λO2 g2 c2 l2 N2 g3 q2 W h2 hA2 MV h3 h4=>zll M G O2 g2 c2 l2 N2 g3 q2 W (by omega) hA2 MV (by omega) h3 h4
theorem zsM(w:zk)(hA:Bs g l N g')(h:gP w G O g l q)(hl:l.length<=2000)(hc:l.length<=c)(jE:c<=9223372036854775807):zl prog 85 #[zg (za ⟨G,O,zf⟩) l.length c] w (Qq w N):=
 zll l.length G O g c l N g' q w (aq _) hA h hl hc jE
end Go.Proofs.YtfajjdgkiilhfaaGreatDoor
