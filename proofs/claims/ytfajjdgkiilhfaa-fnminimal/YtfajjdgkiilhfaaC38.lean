import Derived.Test.YtfajjdgkiilhfaaC37
import Derived.Deep.Cut
import Derived.Deep.CutRange
namespace Go.Proofs.Ytfajjdgkiilhfaa
open Proofs.Try
open RowKit renaming Hid->za,Below->zw
open Value renaming int->zh,slice->zp
open Option renaming some->zi,none->zn
set_option maxHeartbeats 8000000
set_option maxRecDepth 100000
open Go.RowKit
attribute [local go_sem ↓] wp_at_zero wp_at_succ
theorem zi7(t:ByteArray)(a:Nat)(w:World)(ha:a<t.size)(hsz:t.size<=2000)(Ih:aA t.data.toList (a+1)=94):
  Calls prog 82 #[.string t,zh .i64 (a:Int)] w (GD w a (sV (t.data.toList.drop (a+1)))):=by
 obtain⟨iB,yE,yR,yS,yT⟩:=info_parts Try.ZN
 go_enter func82,ntmps82
 go_wp2_with (refine wpList_make_full _ rfl _ _ 37 rfl w.heap.size 4 iB _ 1 underlying37 yE yR yS _ _ _ _ 256 rfl rfl rfl rfl (by rw[yT];omega) (by unfold maxLen;omega) (ax _) ?_;intro w1 bV nM)
 have iX:=zhg bV;rw[zfC]at iX;have iX:bC w1 w.heap.size gR:=iX;have aP:zw w.heap.size w w1:=(Below.refl _ _).grown nM (ax _) (by intro k h;cases h);clear bV nM;refine(DY t (a+1) _ _ (by omega)).mono ?_;rintro e w' ⟨rfl,rfl⟩;rw[Ih];have hlA:=Mt.1 (show 0<=aA t.data.toList (a+1) by omega);have H94:za _:=Ih;go_wp2;have bF:pG t a (a+2) true (a+2) gR:=.zBo Ih;obtain⟨B,NH⟩:∃B,B=a+2:=⟨_,rfl⟩;rw[<-NH]at bF;have NM:((B:Nat):Int)=(a:Int)+2:=by omega
 have HB:za _:=NM;clear NH NM
 go_loopw [7] (λi wr=>∃(k:Nat) (f:Nat->Bool),i=zh .i64 k/\bC wr w.heap.size f/\zw w.heap.size w wr/\za (pG t a B true k f))
  (λi _=>t.size-(intOf i).toNat)
 case atStart=>exact⟨B,gR,by have:=HB.out;congr 1;omega,iX,aP,bF⟩
 case round=>
  obtain⟨k,f,rfl,hr,hb,HS⟩:=hrel;have hkB:=HS.out.ge;have cY:=HS.out.le;have haB:=HS.out.b
  by_cases hlt:k<t.size
  case neg=>
   have HN:za _:=HS.out.over hlt;have yG:¬(k:Int)<(t.size:Int):=by omega
   have iE:=az hr;have Hr:za _:=hr;clear hr;go_wp2;refine bw (v:=.tuple #[zp (zi ⟨w.heap.size,0,zn⟩) 256 256,zh .i64 (-1)]) (by simp[results,results82,go_sem]) rfl ?_;exact .bad hb iE HN.out
  have h1:(k:Int)<(t.size:Int):=by omega
  have hc:t[k].toNat<256:=t[k].toNat_lt;have eY:aA t.data.toList k=(t[k].toNat:Int):=T8 hlt;have fK:za _:=eY;clear eY
  by_cases jp:(t[k].toNat:Int)=93/\B<k
  case pos=>
   obtain⟨jp,Xn⟩:=jp;have HF:za _:=HS.out.fin Xn (fK.out.trans jp);have zzM:(a:Int)+1+1<(k:Int):=by have:=HB.out;omega
   have NG:((t[k].toNat:Int)==93)=true:=by simpa using jp
   have Hr:za _:=hr;clear hr;go_wp2
   go_loopw [10] (λc wz=>∃m:Nat,m<=256/\c=zh .i64 m/\zw w.heap.size w wz/\bC wz w.heap.size (λx=>if x<m then !(f x) else f x))
    (λc _=>256-(intOf c).toNat)
   case atStart=>exact⟨0,by omega,rfl,hb,(show bC wr w.heap.size f from Hr.out).congr (λc _=>by simp)⟩
   case round=>
    obtain⟨m,hm,rfl,dS,cC⟩:=hrel
    by_cases FD:m<256
    ·have c0:wr.cell? ⟨w.heap.size,m,zn⟩=zi (.bool (if m<m then !(f m) else f m)):=cC.get FD;have f0:=cC.thaw m;rw[ab (Nat.lt_irrefl m)]at c0;have HP:za (bC (wr.setCell ⟨w.heap.size,m,zn⟩ (.bool (!(f m)))) w.heap.size (λx=>if x<m+1 then !(f x) else f x)):=by
      refine(cC.put m (!(f m))).congr λc _=>?_
      by_cases e:c=m
      ·subst e;simp
      ·by_cases e2:c<m
       ·simp[e,e2,show c<m+1 by omega]
       ·simp[e,e2,show ¬c<m+1 by omega]
     clear cC;generalize f m=fm at c0 HP;go_wp2
     go_roundw
     case rel=>exact⟨m+1,by omega,by go_num,dS.setCell (by simp) _,HP.out⟩
     case measure=>simp[intOf];omega
    ·have yI:m=256:=by omega
     subst yI;have oc:za (bC wr w.heap.size (DI f)):=cC.congr λc hc=>by simp[DI,hc]
     clear cC;go_wp2;refine bw (v:=.tuple #[zp (zi ⟨w.heap.size,0,zn⟩) 256 256,zh .i64 ((k:Int)+1)]) (by simp[results,results82,go_sem]) rfl ?_;exact .C5 dS oc.out HF.out (by omega)
  have oe:za (¬(aA t.data.toList k=93/\B<k)):=by show ¬_;rw[fK.out];exact jp
  have iV:((t[k].toNat:Int)=93)->¬((a:Int)+1+1<(k:Int)):=λh h2=>jp ⟨h,by have:=HB.out;omega⟩
  clear jp;have Hr:za _:=hr;clear hr;obtain⟨T1,Ag⟩:∃T1,T1=aA t.data.toList (k+1):=⟨_,rfl⟩;have tG:za _:=Ag;have XP:=JD t.data.toList (k+1);rw[<-Ag]at XP;have xL:=DY t (k+1) ((k:Int)+1) wr (by omega);rw[<-Ag]at xL;clear Ag;obtain⟨T2,yA⟩:∃T2,T2=aA t.data.toList (k+2):=⟨_,rfl⟩;have CH:za _:=yA;have XQ:=JD t.data.toList (k+2);rw[<-yA]at XQ;have GO:=DY t (k+2) ((k:Int)+2) wr (by omega);rw[<-yA]at GO;clear yA;obtain⟨T3,yB⟩:∃T3,T3=aA t.data.toList (k+3):=⟨_,rfl⟩;have Bo:za _:=yB;have XS:=JD t.data.toList (k+3);rw[<-yB]at XS;have uE:=DY t (k+3) ((k:Int)+3) wr (by omega);rw[<-yB]at uE;clear yB;have jg:za (aA (t.data.toList.drop k) 0=(t[k].toNat:Int)):=by show _=_;rw[xi];exact fK.out
  have jC:za (aA (t.data.toList.drop k) 1=T1):=by show _=_;rw[xi];exact tG.out.symm
  have gJ:za (aA (t.data.toList.drop k) 2=T2):=by show _=_;rw[xi];exact CH.out.symm
  have ny:za (aA (t.data.toList.drop k) 3=T3):=by show _=_;rw[xi];exact Bo.out.symm
  have N4:0<=T2->k+2<t.size:=λh=>by have:=Mt.1 (show 0<=aA t.data.toList (k+2) by rw[<-CH.out];exact h);rw[jf]at this;exact this
  have CI:za _:=N4;clear N4
  go_upto_region 8 with fail
  go_cut [46] from 38 to 46 (λv wx=>v=.bool false/\wx=wr)
  case first=>
   by_cases h:(t[k].toNat:Int)=93
   ·have hnB:=iV h;have NG:((t[k].toNat:Int)==93)=true:=by simpa using h
    clear h
    go_wp2_with fail
    go_meet
    case rel=>exact⟨rfl,rfl⟩
   ·have NG:((t[k].toNat:Int)==93)=false:=by simpa using h
    go_wp2_with fail
    go_meet
    case rel=>exact⟨rfl,rfl⟩
  obtain⟨rfl,rfl⟩:=hcut;have G9:za _:=iV;clear iV
  ·skip
   go_wp2_with fail
   refine xL.mono ?_;rintro e w2 ⟨rfl,rfl⟩;clear xL
   by_cases tT:(t[k].toNat:Int)=91/\(T1=46\/T1=61)
   case pos=>
    have HN:za _:=HS.out.BF oe.out (zif (by rw[jg.out];exact tT.1) (by rw[jC.out];exact tT.2));have iE:=az Hr.out;obtain⟨e1,e2⟩:=tT;have nG:((t[k].toNat:Int)==91)=true:=by simpa using e1
    clear e1
    by_cases e3:T1=46
    ·have wo:(T1==46)=true:=by simpa using e3
     clear e3 e2;go_wp2;refine bw (v:=.tuple #[zp (zi ⟨w.heap.size,0,zn⟩) 256 256,zh .i64 (-1)]) (by simp[results,results82,go_sem]) rfl ?_;exact .bad hb iE HN.out
    have wo:(T1==46)=false:=by simpa using e3
    have Ib:(T1==61)=true:=by simp;omega
    clear e2 e3;go_wp2;refine bw (v:=.tuple #[zp (zi ⟨w.heap.size,0,zn⟩) 256 256,zh .i64 (-1)]) (by simp[results,results82,go_sem]) rfl ?_;exact .bad hb iE HN.out
   go_upto_region 16 with fail
   go_cut [78] from 67 to 78 (λv wx=>v=.bool false/\wx=w2)
   case first=>
    by_cases e1:(t[k].toNat:Int)=91
    ·have nG:((t[k].toNat:Int)==91)=true:=by simpa using e1
     have Ia:(T1==46)=false:=by simp;omega
     have wo:(T1==61)=false:=by simp;omega
     clear e1
     go_wp2_with fail
     go_meet
     case rel=>exact⟨rfl,rfl⟩
    ·have nG:((t[k].toNat:Int)==91)=false:=by simpa using e1
     go_wp2_with fail
     go_meet
     case rel=>exact⟨rfl,rfl⟩
   obtain⟨rfl,rfl⟩:=hcut
   by_cases bn:(t[k].toNat:Int)=91/\T1=58
   case pos=>
    have bJ:k+2<=t.size:=by have:=Mt.1 (show 0<=aA t.data.toList (k+1) by rw[<-tG.out,bn.2];omega);rw[jf]at this;exact this
    have CG:za _:=zg2 (jg.out.trans bn.1) (jC.out.trans bn.2);rw[List.drop_drop]at CG;obtain⟨e1,e2⟩:=bn;have nG:((t[k].toNat:Int)==91)=true:=by simpa using e1
    have Ia:(T1==58)=true:=by simpa using e2
    clear e1 e2;have iE:=az Hr.out;have tV:∀x (hx:x<t.size),k+2<=x->(t.data.toList.drop (k+2))[x-(k+2)]?=zi t[x]:=λx hx Oa=>by
     rw[En,show k+2+(x-(k+2))=x by omega,bE (by rw[jf];exact hx)]
     rfl
    have vQ:za _:=tV;clear tV;cases ww:yl 58 93 (t.data.toList.drop (k+2)) with
    |none=>
     have HN:za _:=HS.out.BF oe.out (by rw[CG.out,ww]);have hno:∀x (hx:x+1<t.size),k+2<=x->(t[x].toNat:Int)=58->¬(t[x+1].toNat:Int)=93:=by
      intro x hx wF mL jp;have g1:=vQ.out x (by omega) wF;have g2:=vQ.out (x+1) hx (by omega);rw[show x+1-(k+2)=x-(k+2)+1 by omega]at g2;refine zgJ ww (x-(k+2)) ⟨?_,?_⟩
      ·rw[g1];congr 1;exact UInt8.toNat_inj.1 (by have:(58:UInt8).toNat=58:=rfl;omega)
      ·rw[g2];congr 1;exact UInt8.toNat_inj.1 (by have:(93:UInt8).toNat=93:=rfl;omega)
     have Bu:za _:=hno;clear hno ww;go_wp2
     go_loop [12] (λi=>∃j:Nat,k+2<=j/\j<=t.size/\i=zh .i64 j) (λi=>t.size-(intOf i).toNat)
     case atStart=>exact⟨k+2,ax _,bJ,by go_num⟩
     case round=>
      obtain⟨j,pR,e8,rfl⟩:=hrel
      by_cases lM:j+1<t.size
      ·have IH:j<t.size:=by omega
       have i1:(j:Int)+1<(t.size:Int):=by omega
       have i2:(j:Int)<(t.size:Int):=by omega
       have i3:((j:Int)+1).toNat=j+1:=by omega
       have On:t[j].toNat<256:=t[j].toNat_lt;have Oo:t[j+1].toNat<256:=t[j+1].toNat_lt
       by_cases mL:(t[j].toNat:Int)=58
       ·have jp:=Bu.out j lM pR mL;have b1:((t[j].toNat:Int)==58)=true:=by simpa using mL
        have b2:((t[j+1].toNat:Int)==93)=false:=by simpa using jp
        clear mL jp;go_wp2
        go_round
        case rel=>exact⟨j+1,by omega,by omega,by go_num⟩
        case measure=>simp[intOf];omega
       ·have b1:((t[j].toNat:Int)==58)=false:=by simpa using mL
        go_wp2
        go_round
        case rel=>exact⟨j+1,by omega,by omega,by go_num⟩
        case measure=>simp[intOf];omega
      ·have i1:¬(j:Int)+1<(t.size:Int):=by omega
       have i2:(t.size:Int)<=(j:Int)+1:=by omega
       go_wp2;refine bw (v:=.tuple #[zp (zi ⟨w.heap.size,0,zn⟩) 256 256,zh .i64 (-1)]) (by simp[results,results82,go_sem]) rfl ?_;exact .bad hb iE HN.out
    |some q=>
     obtain⟨name,r⟩:=q;obtain⟨hL,Dw⟩:=zgK ww;have hlen:t.size=k+2+(name.length+(2+r.length)):=by
      have:=congrArg List.length hL;rw[List.length_drop,jf]at this;simp only[a6,iG]at this;have:t.data.size=t.size:=rfl;omega
     obtain⟨E,hE⟩:∃E,E=k+2+name.length:=⟨_,rfl⟩;have Xq:E+1<t.size:=by omega
     have Xu:E<t.size:=by omega
     have NN:(t[E].toNat:Int)=58:=by
      have:=vQ.out E Xu (by omega);rw[hL,show E-(k+2)=name.length by omega,vH (ax _),Nat.sub_self]at this;have h3:(58:UInt8)=t[E]:=by simpa using this
      rw[<-h3];rfl
     have NP:(t[E+1].toNat:Int)=93:=by
      have:=vQ.out (E+1) Xq (by omega);rw[hL,show E+1-(k+2)=name.length+1 by omega,vH (by omega),show name.length+1-name.length=1 by omega]at this;have h3:(93:UInt8)=t[E+1]:=by simpa using this
      rw[<-h3];rfl
     have hno:∀x (hx:x+1<t.size),k+2<=x->x<E->((t[x]'(Nat.lt_of_succ_lt hx)).toNat:Int)=58->¬(t[x+1].toNat:Int)=93:=by
      intro x hx wF ZG mL jp;have g1:=vQ.out x (by omega) wF;have g2:=vQ.out (x+1) hx (by omega);rw[show x+1-(k+2)=x-(k+2)+1 by omega]at g2;refine Dw (x-(k+2)) (by omega) ⟨?_,?_⟩
      ·rw[g1];congr 1;exact UInt8.toNat_inj.1 (by have:(58:UInt8).toNat=58:=rfl;omega)
      ·rw[g2];congr 1;exact UInt8.toNat_inj.1 (by have:(93:UInt8).toNat=93:=rfl;omega)
     obtain⟨I,hI⟩:∃I,I=t.extract (k+2) E:=⟨_,rfl⟩;have HI:za (I.data.toList=name):=by
      show _=_;rw[hI,Uc,hL,show E-(k+2)=name.length by omega];simp
     have MV:za (t.extract (k+2) E=I):=hI.symm;have MU:za (j5 (t.data.toList.drop k)=match oL name with|none=>zn|some f=>zi (f,name.length+4)):=by show _=_;rw[CG.out,ww];rfl
     have Xr:k+2<=E:=by omega
     have HE:za _:=hE;have Bu:za _:=hno;have Bt:za _:=hlen;clear hno ww hL Dw hE hI CG hlen;go_wp2
     go_loop [12] (λi=>∃j:Nat,k+2<=j/\j<=E/\i=zh .i64 j) (λi=>t.size-(intOf i).toNat)
     case atStart=>exact⟨k+2,ax _,Xr,by go_num⟩
     case round=>
      obtain⟨j,pR,e8,rfl⟩:=hrel
      by_cases lM:j<E
      ·have YR:j+1<t.size:=by omega
       have IH:j<t.size:=by omega
       have i1:(j:Int)+1<(t.size:Int):=by omega
       have i2:(j:Int)<(t.size:Int):=by omega
       have i3:((j:Int)+1).toNat=j+1:=by omega
       have On:t[j].toNat<256:=t[j].toNat_lt;have Oo:t[j+1].toNat<256:=t[j+1].toNat_lt
       by_cases mL:(t[j].toNat:Int)=58
       ·have jp:=Bu.out j YR pR lM mL;have b1:((t[j].toNat:Int)==58)=true:=by simpa using mL
        have b2:((t[j+1].toNat:Int)==93)=false:=by simpa using jp
        clear mL jp;go_wp2
        go_round
        case rel=>exact⟨j+1,by omega,by omega,by go_num⟩
        case measure=>simp[intOf];omega
       ·have b1:((t[j].toNat:Int)==58)=false:=by simpa using mL
        go_wp2
        go_round
        case rel=>exact⟨j+1,by omega,by omega,by go_num⟩
        case measure=>simp[intOf];omega
      ·have YL:j=E:=by omega
       subst YL;have i1:(j:Int)+1<(t.size:Int):=by omega
       have i2:(j:Int)<(t.size:Int):=by omega
       have i3:((j:Int)+1).toNat=j+1:=by omega
       have i4:((k:Int)+2).toNat=k+2:=by omega
       have i5:(k:Int)+2<=(j:Int):=by omega
       have i6:(j:Int)<=(t.size:Int):=by omega
       have b1:((t[j].toNat:Int)==58)=true:=by simpa using NN
       have b2:((t[j+1].toNat:Int)==93)=true:=by simpa using NP
       have On:t[j].toNat<256:=t[j].toNat_lt;have Oo:t[j+1].toNat<256:=t[j+1].toNat_lt;clear NN NP
       go_wp2_with fail
       rw[MV.out];refine(zec _).mono ?_;rintro e w5 ⟨rfl,pU,b5⟩;have Nt:za (bC w5 w.heap.size f):=aY Hr.out b5;have cO:=bi hb hb.size b5;have O4:=az Nt.out;have VU:za _:=pU;clear pU;go_wp2
       go_loop [14,124] (λkn i=>∃j:Nat,j<=9/\i=zh .i64 j/\kn=.bool (decide (name∈jz.take j))) (λ_ i=>9-(intOf i).toNat)
       case atStart=>exact⟨0,by omega,rfl,rfl⟩
       case round=>
        obtain⟨y,hy,rfl,rfl⟩:=hrel
        by_cases OM:y<9
        ·obtain⟨Q,hQ⟩:∃Q:ByteArray,Q=⟨(jz.getD y []).toArray⟩:=⟨_,rfl⟩;have c0:w5.cell? ⟨wc.heap.size,y,zn⟩=zi (.string Q):=by
          rw[dt _ _ _ _ _ _ VU.out,hQ];show (jz.map zvz).toArray[y]?=_;have wO:y<jz.length:=OM;rw[JN,vE,bE wO,bI,bE wO]
          rfl
         have Fg:Q.data.toList=jz.getD y []:=by rw[hQ]
         have jH:jz.take (y+1)=jz.take y++[jz.getD y []]:=by
          have wO:y<jz.length:=OM;rw[vD wO,bI,bE wO]
          rfl
         have oT:za _:=jH;have M6:za _:=Fg;clear hQ jH Fg
         by_cases oq:jz.getD y []=name
         ·have q1:(Q.toList==I.toList)=true:=by rw[Ci,Ci,M6.out,HI.out,oq];exact beq_self_eq_true _
          have HV:za (decide (name∈jz.take (y+1))=true):=by show _=_;rw[oT.out,oq];simp
          clear oq;go_wp2
          go_round
          case rel=>exact⟨y+1,by omega,by go_num,by rw[HV.out]⟩
          case measure=>simp[intOf];omega
         ·have q1:(Q.toList==I.toList)=false:=by rw[Ci,Ci,M6.out,HI.out];exact lX.2 oq
          have HV:za (decide (name∈jz.take (y+1))=decide (name∈jz.take y)):=by
           show _=_;rw[oT.out,decide_eq_decide];simp only[gH,vF];exact⟨λh=>h.resolve_right (λe=>oq e.symm),.inl⟩
          clear oq;go_wp2
          go_round
          case rel=>exact⟨y+1,by omega,by go_num,by rw[HV.out]⟩
          case measure=>simp[intOf];omega
        ·have ZI:y=9:=by omega
         subst ZI;have cj:decide (name∈jz.take 9)=(oL name).isSome:=by rw[zgE];rfl
         rw[cj];clear cj;cases pN:oL name with
         |none=>
          have HN:za _:=HS.out.BF oe.out (by rw[MU.out,pN]);show Code.wp _ _ _ _ _;unfold Option.isSome;go_wp2;refine bw (v:=.tuple #[zp (zi ⟨w.heap.size,0,zn⟩) 256 256,zh .i64 (-1)]) (by simp[results,results82,go_sem]) rfl ?_;exact .bad cO O4 HN.out
         |some g=>
          have kH:∀x,iq name x=g x:=λx=>by unfold iq;rw[pN]
          have Vd:za (j5 (t.data.toList.drop k)=zi (g,name.length+4)):=by show _=_;rw[MU.out,pN]
          have CO:za _:=kH;clear kH pN;show Code.wp _ _ _ _ _;unfold Option.isSome;go_wp2
          go_loopw [17] (λc wz=>∃m:Nat,m<=256/\c=zh .i64 m/\zw w.heap.size w wz/\bC wz w.heap.size (λx=>f x || (decide (x<m)&&g x)))
           (λc _=>256-(intOf c).toNat)
          case atStart=>exact⟨0,by omega,rfl,cO,Nt.out.congr (λc _=>by simp)⟩
          case round=>
           obtain⟨m,hm,rfl,dS,cC⟩:=hrel
           by_cases FD:m<256
           ·have hC:=zfW I m (m:Int) wr rfl;rw[HI.out,CO.out]at hC;have c0:wr.cell? ⟨w.heap.size,m,zn⟩=zi (.bool (f m || (decide (m<m)&&g m))):=cC.get FD;have f0:=cC.thaw m;generalize (f m || (decide (m<m)&&g m))=old at c0;have HP:za (bC (wr.setCell ⟨w.heap.size,m,zn⟩ (.bool true)) w.heap.size (λc=>if c=m then true else (f c || (decide (c<m)&&g c)))):=cC.put m true;have V0:za (bC wr w.heap.size (λx=>f x || (decide (x<m)&&g x))):=cC;clear cC;cases hg:g m
            ·rw[hg]at hC
             go_wp2_with fail
             refine hC.mono ?_;rintro e w6 ⟨rfl,rfl⟩;go_wp2
             go_roundw
             case rel=>
              refine⟨m+1,by omega,by go_num,dS,V0.out.congr λc _=>?_⟩
              by_cases e:c=m
              ·subst e;simp[hg]
              ·rw[decide_eq_decide.2 (show c<m↔c<m+1 by omega)]
             case measure=>simp[intOf];omega
            ·rw[hg]at hC
             go_wp2_with fail
             refine hC.mono ?_;rintro e w6 ⟨rfl,rfl⟩;go_wp2
             go_roundw
             case rel=>
              refine⟨m+1,by omega,by go_num,dS.setCell (by simp) _,HP.out.congr λc _=>?_⟩
              by_cases e:c=m
              ·subst e;simp[hg]
              ·rw[ab e,decide_eq_decide.2 (show c<m↔c<m+1 by omega)]
             case measure=>simp[intOf];omega
           ·have yI:m=256:=by omega
            subst yI;have oc:za (bC wr w.heap.size (p8 f g)):=cC.congr λc hc=>by simp[p8,hc]
            clear cC;go_wp2
            go_roundw
            case rel=>exact⟨k+(name.length+4),p8 f g,by have:=HE.out;congr 1;omega,oc.out,dS,HS.out.step hlt oe.out Vd.out (by have:=Bt.out;omega) rfl⟩
            case measure=>have:=HE.out;simp[intOf];omega
   go_upto_region 18 with fail
   go_cut [87] from 80 to 87 (λv wx=>v=.bool false/\wx=wc)
   case first=>
    by_cases e1:(t[k].toNat:Int)=91
    ·have nG:((t[k].toNat:Int)==91)=true:=by simpa using e1
     have Ia:(T1==58)=false:=by simp;omega
     clear e1
     go_wp2_with fail
     go_meet
     case rel=>exact⟨rfl,rfl⟩
    ·have nG:((t[k].toNat:Int)==91)=false:=by simpa using e1
     go_wp2_with fail
     go_meet
     case rel=>exact⟨rfl,rfl⟩
   obtain⟨rfl,rfl⟩:=hcut
   go_wp2_with fail
   refine GO.mono ?_;rintro e w2 ⟨rfl,rfl⟩;clear GO
   by_cases C8:T1=45
   case neg=>
    have Xd:(T1==45)=false:=by simpa using C8
    go_wp2;have HI:za (j5 (t.data.toList.drop k)=zi (iu (t[k].toNat:Int) (t[k].toNat:Int),1)):=by
     show _=_;rw[L8 (by rw[jg.out,jC.out];omega) (by rw[jC.out,gJ.out];first|omega|(have:=G3.out;omega)),jg.out]
    go_loopw [22] (λc wz=>∃m:Nat,t[k].toNat<=m/\(m=t[k].toNat\/(m:Int)<=(t[k].toNat:Int)+1)/\c=zh .i64 m/\zw w.heap.size w wz/\bC wz w.heap.size (ir f t[k].toNat m))
     (λc _=>((t[k].toNat:Int)+1-intOf c).toNat)
    case atStart=>exact⟨t[k].toNat,ax _,.inl rfl,rfl,hb,by unfold bC;rw[DT];exact Hr.out⟩
    case round=>
     obtain⟨m,jV,fY,rfl,dS,cC⟩:=hrel
     by_cases Du:(m:Int)<=(t[k].toNat:Int)
     ·have lN:m<256:=by omega
      have c0:=cC.get lN;have f0:=cC.thaw m;generalize ir f t[k].toNat m m=old at c0;obtain⟨WZ,tQ⟩:∃WZ,WZ=wr:=⟨_,rfl⟩;subst tQ;have HP:za (bC (WZ.setCell ⟨w.heap.size,m,zn⟩ (.bool true)) w.heap.size (ir f t[k].toNat (m+1))):=by
       show bC _ _ _;unfold bC;rw[dx _ _ _ _ _ _ cC,DW,DR _ _ _ jV]
      clear cC;go_wp2
      go_roundw
      case rel=>exact⟨m+1,by omega,by omega,by go_num,dS.setCell (by simp) _,HP.out⟩
      case measure=>simp[intOf];omega
     ·have oc:za _:=cC.grown fY (show (t[k].toNat:Int)<m by omega);clear cC;go_wp2
      go_roundw
      case rel=>exact⟨k+1,_,by go_num,oc.out,dS,HS.out.step hlt oe.out HI.out (by have:=CI.out;omega) rfl⟩
      case measure=>simp[intOf];omega
   have Xd:(T1==45)=true:=by simpa using C8
   have Bg:za _:=C8;clear C8
   by_cases Iu:0<=T2
   case neg=>
    go_wp2;have HI:za (j5 (t.data.toList.drop k)=zi (iu (t[k].toNat:Int) (t[k].toNat:Int),1)):=by
     show _=_;rw[L8 (by rw[jg.out,jC.out];omega) (by rw[jC.out,gJ.out];first|omega|(have:=G3.out;omega)),jg.out]
    go_loopw [22] (λc wz=>∃m:Nat,t[k].toNat<=m/\(m=t[k].toNat\/(m:Int)<=(t[k].toNat:Int)+1)/\c=zh .i64 m/\zw w.heap.size w wz/\bC wz w.heap.size (ir f t[k].toNat m))
     (λc _=>((t[k].toNat:Int)+1-intOf c).toNat)
    case atStart=>exact⟨t[k].toNat,ax _,.inl rfl,rfl,hb,by unfold bC;rw[DT];exact Hr.out⟩
    case round=>
     obtain⟨m,jV,fY,rfl,dS,cC⟩:=hrel
     by_cases Du:(m:Int)<=(t[k].toNat:Int)
     ·have lN:m<256:=by omega
      have c0:=cC.get lN;have f0:=cC.thaw m;generalize ir f t[k].toNat m m=old at c0;obtain⟨WZ,tQ⟩:∃WZ,WZ=wr:=⟨_,rfl⟩;subst tQ;have HP:za (bC (WZ.setCell ⟨w.heap.size,m,zn⟩ (.bool true)) w.heap.size (ir f t[k].toNat (m+1))):=by
       show bC _ _ _;unfold bC;rw[dx _ _ _ _ _ _ cC,DW,DR _ _ _ jV]
      clear cC;go_wp2
      go_roundw
      case rel=>exact⟨m+1,by omega,by omega,by go_num,dS.setCell (by simp) _,HP.out⟩
      case measure=>simp[intOf];omega
     ·have oc:za _:=cC.grown fY (show (t[k].toNat:Int)<m by omega);clear cC;go_wp2
      go_roundw
      case rel=>exact⟨k+1,_,by go_num,oc.out,dS,HS.out.step hlt oe.out HI.out (by have:=CI.out;omega) rfl⟩
      case measure=>simp[intOf];omega
   by_cases tP:T2=93
   case pos=>
    have XR:(T2 != 93)=false:=by simpa using tP
    have G3:za _:=tP;clear tP;go_wp2;have HI:za (j5 (t.data.toList.drop k)=zi (iu (t[k].toNat:Int) (t[k].toNat:Int),1)):=by
     show _=_;rw[L8 (by rw[jg.out,jC.out];omega) (by rw[jC.out,gJ.out];first|omega|(have:=G3.out;omega)),jg.out]
    go_loopw [22] (λc wz=>∃m:Nat,t[k].toNat<=m/\(m=t[k].toNat\/(m:Int)<=(t[k].toNat:Int)+1)/\c=zh .i64 m/\zw w.heap.size w wz/\bC wz w.heap.size (ir f t[k].toNat m))
     (λc _=>((t[k].toNat:Int)+1-intOf c).toNat)
    case atStart=>exact⟨t[k].toNat,ax _,.inl rfl,rfl,hb,by unfold bC;rw[DT];exact Hr.out⟩
    case round=>
     obtain⟨m,jV,fY,rfl,dS,cC⟩:=hrel
     by_cases Du:(m:Int)<=(t[k].toNat:Int)
     ·have lN:m<256:=by omega
      have c0:=cC.get lN;have f0:=cC.thaw m;generalize ir f t[k].toNat m m=old at c0;obtain⟨WZ,tQ⟩:∃WZ,WZ=wr:=⟨_,rfl⟩;subst tQ;have HP:za (bC (WZ.setCell ⟨w.heap.size,m,zn⟩ (.bool true)) w.heap.size (ir f t[k].toNat (m+1))):=by
       show bC _ _ _;unfold bC;rw[dx _ _ _ _ _ _ cC,DW,DR _ _ _ jV]
      clear cC;go_wp2
      go_roundw
      case rel=>exact⟨m+1,by omega,by omega,by go_num,dS.setCell (by simp) _,HP.out⟩
      case measure=>simp[intOf];omega
     ·have oc:za _:=cC.grown fY (show (t[k].toNat:Int)<m by omega);clear cC;go_wp2
      go_roundw
      case rel=>exact⟨k+1,_,by go_num,oc.out,dS,HS.out.step hlt oe.out HI.out (by have:=CI.out;omega) rfl⟩
      case measure=>simp[intOf];omega
   have XR:(T2 != 93)=true:=by simpa using tP
   go_wp2_with fail
   refine uE.mono ?_;rintro e w2 ⟨rfl,rfl⟩;clear uE
   by_cases tT:T2=91/\(T3=46\/T3=61\/T3=58)
   case pos=>
    have HN:za _:=HS.out.BF oe.out (TT (by rw[jC.out];exact Bg.out) (by rw[gJ.out];exact Iu) (by rw[gJ.out];exact tP) (by rw[jg.out,gJ.out,ny.out];omega));have iE:=az Hr.out;obtain⟨e1,e2⟩:=tT;have nG:(T2==91)=true:=by simpa using e1
    clear e1
    by_cases e3:T3=46
    ·have wo:(T3==46)=true:=by simpa using e3
     clear e3 e2;go_wp2;refine bw (v:=.tuple #[zp (zi ⟨w.heap.size,0,zn⟩) 256 256,zh .i64 (-1)]) (by simp[results,results82,go_sem]) rfl ?_;exact .bad hb iE HN.out
    have wo:(T3==46)=false:=by simpa using e3
    by_cases e4:T3=61
    ·have Ib:(T3==61)=true:=by simpa using e4
     clear e4 e2 e3;go_wp2;refine bw (v:=.tuple #[zp (zi ⟨w.heap.size,0,zn⟩) 256 256,zh .i64 (-1)]) (by simp[results,results82,go_sem]) rfl ?_;exact .bad hb iE HN.out
    have Ib:(T3==61)=false:=by simpa using e4
    have e5b:(T3==58)=true:=by simp;omega
    clear e4 e2 e3;go_wp2;refine bw (v:=.tuple #[zp (zi ⟨w.heap.size,0,zn⟩) 256 256,zh .i64 (-1)]) (by simp[results,results82,go_sem]) rfl ?_;exact .bad hb iE HN.out
   go_upto_region 45 with fail
   go_cut [183] from 170 to 183 (λv wx=>v=.bool false/\wx=w2)
   case first=>
    by_cases e1:T2=91
    ·have nG:(T2==91)=true:=by simpa using e1
     have Ia:(T3==46)=false:=by simp;omega
     have wo:(T3==61)=false:=by simp;omega
     have Ib:(T3==58)=false:=by simp;omega
     clear e1
     go_wp2_with fail
     go_meet
     case rel=>exact⟨rfl,rfl⟩
    ·have nG:(T2==91)=false:=by simpa using e1
     go_wp2_with fail
     go_meet
     case rel=>exact⟨rfl,rfl⟩
   obtain⟨rfl,rfl⟩:=hcut
   by_cases oC:T2<(t[k].toNat:Int)
   case pos=>
    have HN:za _:=HS.out.BF oe.out (TT (by rw[jC.out];exact Bg.out) (by rw[gJ.out];exact Iu) (by rw[gJ.out];exact tP) (by rw[jg.out,gJ.out,ny.out];omega));have iE:=az Hr.out;go_wp2;refine bw (v:=.tuple #[zp (zi ⟨w.heap.size,0,zn⟩) 256 256,zh .i64 (-1)]) (by simp[results,results82,go_sem]) rfl ?_;exact .bad hb iE HN.out
   go_wp2;have HI:za (j5 (t.data.toList.drop k)=zi (iu (t[k].toNat:Int) T2,3)):=by
    show _=_;rw[zg3 (by rw[jC.out];exact Bg.out) (by rw[gJ.out];exact Iu) (by rw[gJ.out];exact tP) (by rw[jg.out,gJ.out,ny.out];omega),jg.out,gJ.out]
   go_loopw [22] (λc wz=>∃m:Nat,t[k].toNat<=m/\(m=t[k].toNat\/(m:Int)<=T2+1)/\c=zh .i64 m/\zw w.heap.size w wz/\bC wz w.heap.size (ir f t[k].toNat m))
    (λc _=>(T2+1-intOf c).toNat)
   case atStart=>exact⟨t[k].toNat,ax _,.inl rfl,rfl,hb,by unfold bC;rw[DT];exact Hr.out⟩
   case round=>
    obtain⟨m,jV,fY,rfl,dS,cC⟩:=hrel
    by_cases Du:(m:Int)<=T2
    ·have lN:m<256:=by omega
     have c0:=cC.get lN;have f0:=cC.thaw m;generalize ir f t[k].toNat m m=old at c0;obtain⟨WZ,tQ⟩:∃WZ,WZ=wr:=⟨_,rfl⟩;subst tQ;have HP:za (bC (WZ.setCell ⟨w.heap.size,m,zn⟩ (.bool true)) w.heap.size (ir f t[k].toNat (m+1))):=by
      show bC _ _ _;unfold bC;rw[dx _ _ _ _ _ _ cC,DW,DR _ _ _ jV]
     clear cC;go_wp2
     go_roundw
     case rel=>exact⟨m+1,by omega,by omega,by go_num,dS.setCell (by simp) _,HP.out⟩
     case measure=>simp[intOf];omega
    ·have oc:za _:=cC.grown fY (show T2<m by omega);clear cC;go_wp2
     go_roundw
     case rel=>exact⟨k+3,_,by go_num,oc.out,dS,HS.out.step hlt oe.out HI.out (by have:=CI.out;omega) rfl⟩
     case measure=>simp[intOf];omega
end Go.Proofs.Ytfajjdgkiilhfaa
