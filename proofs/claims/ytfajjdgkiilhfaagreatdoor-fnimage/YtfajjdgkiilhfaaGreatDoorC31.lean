import Derived.Test.YtfajjdgkiilhfaaGreatDoorC29
import Derived.Deep.Cut
import Derived.Deep.CutRange
namespace Go.Proofs.YtfajjdgkiilhfaaGreatDoor
open Proofs.Tryz
open RowKit renaming Hid->za,Below->zf
open Value renaming int->zb,slice->ze
open Option renaming some->zc,none->zd
set_option maxHeartbeats 8000000
set_option maxRecDepth 100000
open Go.RowKit
attribute [local go_sem ↓] wp_at_zero wp_at_succ
theorem zli(t:ByteArray)(a:Nat)(w:World)(ha:a<t.size)(hsz:t.size<=2000)(Gk:¬aA t.data.toList (a+1)=94):
  Calls prog 93 #[.string t,zb .i64 (a:Int)] w (FI w a (sP (t.data.toList.drop (a+1)))):=by
 obtain⟨iB,Ez,EQ,ER,ES⟩:=info_parts Tryz.YY
 go_enter func93,ntmps93
 go_wp2_with (refine wpList_make_full _ rfl _ _ 93 rfl w.heap.size 4 iB _ 1 underlying93 Ez EQ ER _ _ _ _ 256 rfl rfl rfl rfl (by rw[ES];omega) (by unfold maxLen;omega) (aq _) ?_;intro w1 bL jn)
 have iL:=zhY bL;rw[ZZ]at iL;have iL:a9 w1 w.heap.size gU:=iL;have aO:zf w.heap.size w w1:=(Below.refl _ _).grown jn (aq _) (by intro k h;cases h);clear bL jn;refine(CV t (a+1) _ _ (by omega)).mono ?_;rintro e w' ⟨rfl,rfl⟩;have zCO:(aA t.data.toList (a+1)==94)=false:=by simpa using Gk
 have H94:za _:=Gk;go_wp2;have bi:pE t a (a+1) false (a+1) gU:=.zCu Gk ha;obtain⟨B,MD⟩:∃B,B=a+1:=⟨_,rfl⟩;rw[<-MD]at bi;have MF:((B:Nat):Int)=(a:Int)+1:=by omega
 have HB:za _:=MF;clear MD MF
 go_loopw [7] (λi wr=>∃(k:Nat) (f:Nat->Bool),i=zb .i64 k/\a9 wr w.heap.size f/\zf w.heap.size w wr/\za (pE t a B false k f))
  (λi _=>t.size-(intOf i).toNat)
 case atStart=>exact⟨B,gU,by have:=HB.out;congr 1;omega,iL,aO,bi⟩
 case round=>
  obtain⟨k,f,rfl,hr,hb,HS⟩:=hrel;have hkB:=HS.out.ge;have dY:=HS.out.le;have haB:=HS.out.b
  by_cases hlt:k<t.size
  case neg=>
   have HN:za _:=HS.out.over hlt;have ry:¬(k:Int)<(t.size:Int):=by omega
   have gy:=ay hr;have Hr:za _:=hr;clear hr;go_wp2;refine aW (v:=.tuple #[ze (zc ⟨w.heap.size,0,zd⟩) 256 256,zb .i64 (-1)]) (by simp[results,results93,go_sem]) rfl ?_;exact .bad hb gy HN.out
  have h1:(k:Int)<(t.size:Int):=by omega
  have hc:t[k].toNat<256:=t[k].toNat_lt;have fV:aA t.data.toList k=(t[k].toNat:Int):=TT hlt;have gM:za _:=fV;clear fV
  by_cases jd:(t[k].toNat:Int)=93/\B<k
  case pos=>
   obtain⟨jd,Wy⟩:=jd;have HF:za _:=HS.out.fin Wy (gM.out.trans jd);have zA4:(a:Int)+1<(k:Int):=by have:=HB.out;omega
   have MC:((t[k].toNat:Int)==93)=true:=by simpa using jd
   have Hr:za _:=hr;clear hr;go_wp2;refine aW (v:=.tuple #[ze (zc ⟨w.heap.size,0,zd⟩) 256 256,zb .i64 ((k:Int)+1)]) (by simp[results,results93,go_sem]) rfl ?_;exact .D9 hb Hr.out HF.out (by omega)
  have ot:za (¬(aA t.data.toList k=93/\B<k)):=by show ¬_;rw[gM.out];exact jd
  have dN:((t[k].toNat:Int)=93)->¬((a:Int)+1<(k:Int)):=λh h2=>jd ⟨h,by have:=HB.out;omega⟩
  clear jd;have Hr:za _:=hr;clear hr;obtain⟨T1,zh⟩:∃T1,T1=aA t.data.toList (k+1):=⟨_,rfl⟩;have tf:za _:=zh;have Xa:=Iz t.data.toList (k+1);rw[<-zh]at Xa;have qX:=CV t (k+1) ((k:Int)+1) wr (by omega);rw[<-zh]at qX;clear zh;obtain⟨T2,tF⟩:∃T2,T2=aA t.data.toList (k+2):=⟨_,rfl⟩;have BG:za _:=tF;have Xb:=Iz t.data.toList (k+2);rw[<-tF]at Xb;have vr:=CV t (k+2) ((k:Int)+2) wr (by omega);rw[<-tF]at vr;clear tF;obtain⟨T3,xJ⟩:∃T3,T3=aA t.data.toList (k+3):=⟨_,rfl⟩;have Aw:za _:=xJ;have Xd:=Iz t.data.toList (k+3);rw[<-xJ]at Xd;have FO:=CV t (k+3) ((k:Int)+3) wr (by omega);rw[<-xJ]at FO;clear xJ;have iZ:za (aA (t.data.toList.drop k) 0=(t[k].toNat:Int)):=by show _=_;rw[wF];exact gM.out
  have jl:za (aA (t.data.toList.drop k) 1=T1):=by show _=_;rw[wF];exact tf.out.symm
  have fM:za (aA (t.data.toList.drop k) 2=T2):=by show _=_;rw[wF];exact BG.out.symm
  have nw:za (aA (t.data.toList.drop k) 3=T3):=by show _=_;rw[wF];exact Aw.out.symm
  have MU:0<=T2->k+2<t.size:=λh=>by have:=Lp.1 (show 0<=aA t.data.toList (k+2) by rw[<-BG.out];exact h);rw[iW]at this;exact this
  have BH:za _:=MU;clear MU
  go_upto_region 8 with fail
  go_cut [46] from 38 to 46 (λv wx=>v=.bool false/\wx=wr)
  case first=>
   by_cases h:(t[k].toNat:Int)=93
   ·have hnB:=dN h;have MC:((t[k].toNat:Int)==93)=true:=by simpa using h
    clear h
    go_wp2_with fail
    go_meet
    case rel=>exact⟨rfl,rfl⟩
   ·have MC:((t[k].toNat:Int)==93)=false:=by simpa using h
    go_wp2_with fail
    go_meet
    case rel=>exact⟨rfl,rfl⟩
  obtain⟨rfl,rfl⟩:=hcut;have F4:za _:=dN;clear dN
  ·skip
   go_wp2_with fail
   refine qX.mono ?_;rintro e w2 ⟨rfl,rfl⟩;clear qX
   by_cases tK:(t[k].toNat:Int)=91/\(T1=46\/T1=61)
   case pos=>
    have HN:za _:=HS.out.AE ot.out (zi1 (by rw[iZ.out];exact tK.1) (by rw[jl.out];exact tK.2));have gy:=ay Hr.out;obtain⟨e1,e2⟩:=tK;have o8:((t[k].toNat:Int)==91)=true:=by simpa using e1
    clear e1
    by_cases e3:T1=46
    ·have vM:(T1==46)=true:=by simpa using e3
     clear e3 e2;go_wp2;refine aW (v:=.tuple #[ze (zc ⟨w.heap.size,0,zd⟩) 256 256,zb .i64 (-1)]) (by simp[results,results93,go_sem]) rfl ?_;exact .bad hb gy HN.out
    have vM:(T1==46)=false:=by simpa using e3
    have Gh:(T1==61)=true:=by simp;omega
    clear e2 e3;go_wp2;refine aW (v:=.tuple #[ze (zc ⟨w.heap.size,0,zd⟩) 256 256,zb .i64 (-1)]) (by simp[results,results93,go_sem]) rfl ?_;exact .bad hb gy HN.out
   go_upto_region 16 with fail
   go_cut [78] from 67 to 78 (λv wx=>v=.bool false/\wx=w2)
   case first=>
    by_cases e1:(t[k].toNat:Int)=91
    ·have o8:((t[k].toNat:Int)==91)=true:=by simpa using e1
     have Gg:(T1==46)=false:=by simp;omega
     have vM:(T1==61)=false:=by simp;omega
     clear e1
     go_wp2_with fail
     go_meet
     case rel=>exact⟨rfl,rfl⟩
    ·have o8:((t[k].toNat:Int)==91)=false:=by simpa using e1
     go_wp2_with fail
     go_meet
     case rel=>exact⟨rfl,rfl⟩
   obtain⟨rfl,rfl⟩:=hcut
   by_cases aV:(t[k].toNat:Int)=91/\T1=58
   case pos=>
    have bu:k+2<=t.size:=by have:=Lp.1 (show 0<=aA t.data.toList (k+1) by rw[<-tf.out,aV.2];omega);rw[iW]at this;exact this
    have BD:za _:=zhC (iZ.out.trans aV.1) (jl.out.trans aV.2);rw[List.drop_drop]at BD;obtain⟨e1,e2⟩:=aV;have o8:((t[k].toNat:Int)==91)=true:=by simpa using e1
    have Gg:(T1==58)=true:=by simpa using e2
    clear e1 e2;have gy:=ay Hr.out;have tL:∀x (hx:x<t.size),k+2<=x->(t.data.toList.drop (k+2))[x-(k+2)]?=zc t[x]:=λx hx M1=>by
     rw[Dq,show k+2+(x-(k+2))=x by omega,bE (by rw[iW];exact hx)]
     rfl
    have vy:za _:=tL;clear tL;cases vP:xA 58 93 (t.data.toList.drop (k+2)) with
    |none=>
     have HN:za _:=HS.out.AE ot.out (by rw[BD.out,vP]);have hno:∀x (hx:x+1<t.size),k+2<=x->(t[x].toNat:Int)=58->¬(t[x+1].toNat:Int)=93:=by
      intro x hx vY mN jd;have g1:=vy.out x (by omega) vY;have g2:=vy.out (x+1) hx (by omega);rw[show x+1-(k+2)=x-(k+2)+1 by omega]at g2;refine zhq vP (x-(k+2)) ⟨?_,?_⟩
      ·rw[g1];congr 1;exact UInt8.toNat_inj.1 (by have:(58:UInt8).toNat=58:=rfl;omega)
      ·rw[g2];congr 1;exact UInt8.toNat_inj.1 (by have:(93:UInt8).toNat=93:=rfl;omega)
     have Ay:za _:=hno;clear hno vP;go_wp2
     go_loop [12] (λi=>∃j:Nat,k+2<=j/\j<=t.size/\i=zb .i64 j) (λi=>t.size-(intOf i).toNat)
     case atStart=>exact⟨k+2,aq _,bu,by go_num⟩
     case round=>
      obtain⟨j,se,iD,rfl⟩:=hrel
      by_cases si:j+1<t.size
      ·have GM:j<t.size:=by omega
       have i1:(j:Int)+1<(t.size:Int):=by omega
       have i2:(j:Int)<(t.size:Int):=by omega
       have i3:((j:Int)+1).toNat=j+1:=by omega
       have Na:t[j].toNat<256:=t[j].toNat_lt;have Nb:t[j+1].toNat<256:=t[j+1].toNat_lt
       by_cases mN:(t[j].toNat:Int)=58
       ·have jd:=Ay.out j si se mN;have b1:((t[j].toNat:Int)==58)=true:=by simpa using mN
        have b2:((t[j+1].toNat:Int)==93)=false:=by simpa using jd
        clear mN jd;go_wp2
        go_round
        case rel=>exact⟨j+1,by omega,by omega,by go_num⟩
        case measure=>simp[intOf];omega
       ·have b1:((t[j].toNat:Int)==58)=false:=by simpa using mN
        go_wp2
        go_round
        case rel=>exact⟨j+1,by omega,by omega,by go_num⟩
        case measure=>simp[intOf];omega
      ·have i1:¬(j:Int)+1<(t.size:Int):=by omega
       have i2:(t.size:Int)<=(j:Int)+1:=by omega
       go_wp2;refine aW (v:=.tuple #[ze (zc ⟨w.heap.size,0,zd⟩) 256 256,zb .i64 (-1)]) (by simp[results,results93,go_sem]) rfl ?_;exact .bad hb gy HN.out
    |some q=>
     obtain⟨name,r⟩:=q;obtain⟨hL,GV⟩:=zhr vP;have hlen:t.size=k+2+(name.length+(2+r.length)):=by
      have:=congrArg List.length hL;rw[FD,iW]at this;simp only[aQ,lW]at this;have:t.data.size=t.size:=rfl;omega
     obtain⟨E,hE⟩:∃E,E=k+2+name.length:=⟨_,rfl⟩;have WC:E+1<t.size:=by omega
     have WG:E<t.size:=by omega
     have MH:(t[E].toNat:Int)=58:=by
      have:=vy.out E WG (by omega);rw[hL,show E-(k+2)=name.length by omega,Ap (aq _),Nat.sub_self]at this;have h3:(58:UInt8)=t[E]:=by simpa using this
      rw[<-h3];rfl
     have MI:(t[E+1].toNat:Int)=93:=by
      have:=vy.out (E+1) WC (by omega);rw[hL,show E+1-(k+2)=name.length+1 by omega,Ap (by omega),show name.length+1-name.length=1 by omega]at this;have h3:(93:UInt8)=t[E+1]:=by simpa using this
      rw[<-h3];rfl
     have hno:∀x (hx:x+1<t.size),k+2<=x->x<E->((t[x]'(Nat.lt_of_succ_lt hx)).toNat:Int)=58->¬(t[x+1].toNat:Int)=93:=by
      intro x hx vY YQ mN jd;have g1:=vy.out x (by omega) vY;have g2:=vy.out (x+1) hx (by omega);rw[show x+1-(k+2)=x-(k+2)+1 by omega]at g2;refine GV (x-(k+2)) (by omega) ⟨?_,?_⟩
      ·rw[g1];congr 1;exact UInt8.toNat_inj.1 (by have:(58:UInt8).toNat=58:=rfl;omega)
      ·rw[g2];congr 1;exact UInt8.toNat_inj.1 (by have:(93:UInt8).toNat=93:=rfl;omega)
     obtain⟨I,hI⟩:∃I,I=t.extract (k+2) E:=⟨_,rfl⟩;have HI:za (I.data.toList=name):=by
      show _=_;rw[hI,TX,hL,show E-(k+2)=name.length by omega];simp
     have LW:za (t.extract (k+2) E=I):=hI.symm;have LV:za (jN (t.data.toList.drop k)=match oN name with|none=>zd|some f=>zc (f,name.length+4)):=by show _=_;rw[BD.out,vP];rfl
     have WD:k+2<=E:=by omega
     have HE:za _:=hE;have Ay:za _:=hno;have uw:za _:=hlen;clear hno vP hL GV hE hI BD hlen;go_wp2
     go_loop [12] (λi=>∃j:Nat,k+2<=j/\j<=E/\i=zb .i64 j) (λi=>t.size-(intOf i).toNat)
     case atStart=>exact⟨k+2,aq _,WD,by go_num⟩
     case round=>
      obtain⟨j,se,iD,rfl⟩:=hrel
      by_cases si:j<E
      ·have Yb:j+1<t.size:=by omega
       have GM:j<t.size:=by omega
       have i1:(j:Int)+1<(t.size:Int):=by omega
       have i2:(j:Int)<(t.size:Int):=by omega
       have i3:((j:Int)+1).toNat=j+1:=by omega
       have Na:t[j].toNat<256:=t[j].toNat_lt;have Nb:t[j+1].toNat<256:=t[j+1].toNat_lt
       by_cases mN:(t[j].toNat:Int)=58
       ·have jd:=Ay.out j Yb se si mN;have b1:((t[j].toNat:Int)==58)=true:=by simpa using mN
        have b2:((t[j+1].toNat:Int)==93)=false:=by simpa using jd
        clear mN jd;go_wp2
        go_round
        case rel=>exact⟨j+1,by omega,by omega,by go_num⟩
        case measure=>simp[intOf];omega
       ·have b1:((t[j].toNat:Int)==58)=false:=by simpa using mN
        go_wp2
        go_round
        case rel=>exact⟨j+1,by omega,by omega,by go_num⟩
        case measure=>simp[intOf];omega
      ·have XU:j=E:=by omega
       subst XU;have i1:(j:Int)+1<(t.size:Int):=by omega
       have i2:(j:Int)<(t.size:Int):=by omega
       have i3:((j:Int)+1).toNat=j+1:=by omega
       have i4:((k:Int)+2).toNat=k+2:=by omega
       have i5:(k:Int)+2<=(j:Int):=by omega
       have i6:(j:Int)<=(t.size:Int):=by omega
       have b1:((t[j].toNat:Int)==58)=true:=by simpa using MH
       have b2:((t[j+1].toNat:Int)==93)=true:=by simpa using MI
       have Na:t[j].toNat<256:=t[j].toNat_lt;have Nb:t[j+1].toNat<256:=t[j+1].toNat_lt;clear MH MI
       go_wp2_with fail
       rw[LW.out];refine(zex _).mono ?_;rintro e w5 ⟨rfl,pi,b5⟩;have Mr:za (a9 w5 w.heap.size f):=aT Hr.out b5;have cQ:=aH hb hb.size b5;have NW:=ay Mr.out;have Vx:za _:=pi;clear pi;go_wp2
       go_loop [14,124] (λkn i=>∃j:Nat,j<=9/\i=zb .i64 j/\kn=.bool (decide (name∈jk.take j))) (λ_ i=>9-(intOf i).toNat)
       case atStart=>exact⟨0,by omega,rfl,rfl⟩
       case round=>
        obtain⟨y,hy,rfl,rfl⟩:=hrel
        by_cases Nv:y<9
        ·obtain⟨Q,hQ⟩:∃Q:ByteArray,Q=⟨(jk.getD y []).toArray⟩:=⟨_,rfl⟩;have c0:w5.cell? ⟨wc.heap.size,y,zd⟩=zc (.string Q):=by
          rw[iY _ _ _ _ _ _ Vx.out,hQ];show (jk.map Y9).toArray[y]?=_;have xX:y<jk.length:=Nv;rw[List.getElem?_toArray,wV,bE xX,bJ,bE xX]
          rfl
         have Ej:Q.data.toList=jk.getD y []:=by rw[hQ]
         have eV:jk.take (y+1)=jk.take y++[jk.getD y []]:=by
          have xX:y<jk.length:=Nv;rw[oh xX,bJ,bE xX]
          rfl
         have F5:za _:=eV;have Me:za _:=Ej;clear hQ eV Ej
         by_cases iC:jk.getD y []=name
         ·have q1:(Q.toList==I.toList)=true:=by rw[A4,A4,Me.out,HI.out,iC];exact beq_self_eq_true _
          have HV:za (decide (name∈jk.take (y+1))=true):=by show _=_;rw[F5.out,iC];simp
          clear iC;go_wp2
          go_round
          case rel=>exact⟨y+1,by omega,by go_num,by rw[HV.out]⟩
          case measure=>simp[intOf];omega
         ·have q1:(Q.toList==I.toList)=false:=by rw[A4,A4,Me.out,HI.out];exact lY.2 iC
          have HV:za (decide (name∈jk.take (y+1))=decide (name∈jk.take y)):=by
           show _=_;rw[F5.out,decide_eq_decide];simp only[gH,sZ];exact⟨λh=>h.resolve_right (λe=>iC e.symm),.inl⟩
          clear iC;go_wp2
          go_round
          case rel=>exact⟨y+1,by omega,by go_num,by rw[HV.out]⟩
          case measure=>simp[intOf];omega
        ·have YT:y=9:=by omega
         subst YT;have bm:decide (name∈jk.take 9)=(oN name).isSome:=by rw[zhl];rfl
         rw[bm];clear bm;cases pP:oN name with
         |none=>
          have HN:za _:=HS.out.AE ot.out (by rw[LV.out,pP]);show Code.wp _ _ _ _ _;unfold Option.isSome;go_wp2;refine aW (v:=.tuple #[ze (zc ⟨w.heap.size,0,zd⟩) 256 256,zb .i64 (-1)]) (by simp[results,results93,go_sem]) rfl ?_;exact .bad cQ NW HN.out
         |some g=>
          have mP:∀x,il name x=g x:=λx=>by unfold il;rw[pP]
          have UU:za (jN (t.data.toList.drop k)=zc (g,name.length+4)):=by show _=_;rw[LV.out,pP]
          have Vk:za _:=mP;clear mP pP;show Code.wp _ _ _ _ _;unfold Option.isSome;go_wp2
          go_loopw [17] (λc wz=>∃m:Nat,m<=256/\c=zb .i64 m/\zf w.heap.size w wz/\a9 wz w.heap.size (λx=>f x || (decide (x<m)&&g x)))
           (λc _=>256-(intOf c).toNat)
          case atStart=>exact⟨0,by omega,rfl,cQ,Mr.out.congr (λc _=>by simp)⟩
          case round=>
           obtain⟨m,hm,rfl,ez,bY⟩:=hrel
           by_cases EC:m<256
           ·have hC:=zgv I m (m:Int) wr rfl;rw[HI.out,Vk.out]at hC;have c0:wr.cell? ⟨w.heap.size,m,zd⟩=zc (.bool (f m || (decide (m<m)&&g m))):=bY.get EC;have f0:=bY.thaw m;generalize (f m || (decide (m<m)&&g m))=old at c0;have HP:za (a9 (wr.setCell ⟨w.heap.size,m,zd⟩ (.bool true)) w.heap.size (λc=>if c=m then true else (f c || (decide (c<m)&&g c)))):=bY.put m true;have VC:za (a9 wr w.heap.size (λx=>f x || (decide (x<m)&&g x))):=bY;clear bY;cases hg:g m
            ·rw[hg]at hC
             go_wp2_with fail
             refine hC.mono ?_;rintro e w6 ⟨rfl,rfl⟩;go_wp2
             go_roundw
             case rel=>
              refine⟨m+1,by omega,by go_num,ez,VC.out.congr λc _=>?_⟩
              by_cases e:c=m
              ·subst e;simp[hg]
              ·rw[decide_eq_decide.2 (show c<m↔c<m+1 by omega)]
             case measure=>simp[intOf];omega
            ·rw[hg]at hC
             go_wp2_with fail
             refine hC.mono ?_;rintro e w6 ⟨rfl,rfl⟩;go_wp2
             go_roundw
             case rel=>
              refine⟨m+1,by omega,by go_num,ez.setCell (by simp) _,HP.out.congr λc _=>?_⟩
              by_cases e:c=m
              ·subst e;simp[hg]
              ·rw[ab e,decide_eq_decide.2 (show c<m↔c<m+1 by omega)]
             case measure=>simp[intOf];omega
           ·have J9:m=256:=by omega
            subst J9;have oq:za (a9 wr w.heap.size (p8 f g)):=bY.congr λc hc=>by simp[p8,hc]
            clear bY;go_wp2
            go_roundw
            case rel=>exact⟨k+(name.length+4),p8 f g,by have:=HE.out;congr 1;omega,oq.out,ez,HS.out.step hlt ot.out UU.out (by have:=uw.out;omega) rfl⟩
            case measure=>have:=HE.out;simp[intOf];omega
   go_upto_region 18 with fail
   go_cut [87] from 80 to 87 (λv wx=>v=.bool false/\wx=wc)
   case first=>
    by_cases e1:(t[k].toNat:Int)=91
    ·have o8:((t[k].toNat:Int)==91)=true:=by simpa using e1
     have Gg:(T1==58)=false:=by simp;omega
     clear e1
     go_wp2_with fail
     go_meet
     case rel=>exact⟨rfl,rfl⟩
    ·have o8:((t[k].toNat:Int)==91)=false:=by simpa using e1
     go_wp2_with fail
     go_meet
     case rel=>exact⟨rfl,rfl⟩
   obtain⟨rfl,rfl⟩:=hcut
   go_wp2_with fail
   refine vr.mono ?_;rintro e w2 ⟨rfl,rfl⟩;clear vr
   by_cases B0:T1=45
   case neg=>
    have Wn:(T1==45)=false:=by simpa using B0
    go_wp2;have HI:za (jN (t.data.toList.drop k)=zc (iq (t[k].toNat:Int) (t[k].toNat:Int),1)):=by
     show _=_;rw[KL (by rw[iZ.out,jl.out];omega) (by rw[jl.out,fM.out];first|omega|(have:=FY.out;omega)),iZ.out]
    go_loopw [22] (λc wz=>∃m:Nat,t[k].toNat<=m/\(m=t[k].toNat\/(m:Int)<=(t[k].toNat:Int)+1)/\c=zb .i64 m/\zf w.heap.size w wz/\a9 wz w.heap.size (io f t[k].toNat m))
     (λc _=>((t[k].toNat:Int)+1-intOf c).toNat)
    case atStart=>exact⟨t[k].toNat,aq _,.inl rfl,rfl,hb,by unfold a9;rw[CN];exact Hr.out⟩
    case round=>
     obtain⟨m,oI,fZ,rfl,ez,bY⟩:=hrel
     by_cases Co:(m:Int)<=(t[k].toNat:Int)
     ·have lL:m<256:=by omega
      have c0:=bY.get lL;have f0:=bY.thaw m;generalize io f t[k].toNat m m=old at c0;obtain⟨WZ,tH⟩:∃WZ,WZ=wr:=⟨_,rfl⟩;subst tH;have HP:za (a9 (WZ.setCell ⟨w.heap.size,m,zd⟩ (.bool true)) w.heap.size (io f t[k].toNat (m+1))):=by
       show a9 _ _ _;unfold a9;rw[cJ _ _ _ _ _ _ bY,CS,CM _ _ _ oI]
      clear bY;go_wp2
      go_roundw
      case rel=>exact⟨m+1,by omega,by omega,by go_num,ez.setCell (by simp) _,HP.out⟩
      case measure=>simp[intOf];omega
     ·have oq:za _:=bY.grown fZ (show (t[k].toNat:Int)<m by omega);clear bY;go_wp2
      go_roundw
      case rel=>exact⟨k+1,_,by go_num,oq.out,ez,HS.out.step hlt ot.out HI.out (by have:=BH.out;omega) rfl⟩
      case measure=>simp[intOf];omega
   have Wn:(T1==45)=true:=by simpa using B0
   have FL:za _:=B0;clear B0
   by_cases Gv:0<=T2
   case neg=>
    go_wp2;have HI:za (jN (t.data.toList.drop k)=zc (iq (t[k].toNat:Int) (t[k].toNat:Int),1)):=by
     show _=_;rw[KL (by rw[iZ.out,jl.out];omega) (by rw[jl.out,fM.out];first|omega|(have:=FY.out;omega)),iZ.out]
    go_loopw [22] (λc wz=>∃m:Nat,t[k].toNat<=m/\(m=t[k].toNat\/(m:Int)<=(t[k].toNat:Int)+1)/\c=zb .i64 m/\zf w.heap.size w wz/\a9 wz w.heap.size (io f t[k].toNat m))
     (λc _=>((t[k].toNat:Int)+1-intOf c).toNat)
    case atStart=>exact⟨t[k].toNat,aq _,.inl rfl,rfl,hb,by unfold a9;rw[CN];exact Hr.out⟩
    case round=>
     obtain⟨m,oI,fZ,rfl,ez,bY⟩:=hrel
     by_cases Co:(m:Int)<=(t[k].toNat:Int)
     ·have lL:m<256:=by omega
      have c0:=bY.get lL;have f0:=bY.thaw m;generalize io f t[k].toNat m m=old at c0;obtain⟨WZ,tH⟩:∃WZ,WZ=wr:=⟨_,rfl⟩;subst tH;have HP:za (a9 (WZ.setCell ⟨w.heap.size,m,zd⟩ (.bool true)) w.heap.size (io f t[k].toNat (m+1))):=by
       show a9 _ _ _;unfold a9;rw[cJ _ _ _ _ _ _ bY,CS,CM _ _ _ oI]
      clear bY;go_wp2
      go_roundw
      case rel=>exact⟨m+1,by omega,by omega,by go_num,ez.setCell (by simp) _,HP.out⟩
      case measure=>simp[intOf];omega
     ·have oq:za _:=bY.grown fZ (show (t[k].toNat:Int)<m by omega);clear bY;go_wp2
      go_roundw
      case rel=>exact⟨k+1,_,by go_num,oq.out,ez,HS.out.step hlt ot.out HI.out (by have:=BH.out;omega) rfl⟩
      case measure=>simp[intOf];omega
   by_cases tG:T2=93
   case pos=>
    have Xc:(T2 != 93)=false:=by simpa using tG
    have FY:za _:=tG;clear tG;go_wp2;have HI:za (jN (t.data.toList.drop k)=zc (iq (t[k].toNat:Int) (t[k].toNat:Int),1)):=by
     show _=_;rw[KL (by rw[iZ.out,jl.out];omega) (by rw[jl.out,fM.out];first|omega|(have:=FY.out;omega)),iZ.out]
    go_loopw [22] (λc wz=>∃m:Nat,t[k].toNat<=m/\(m=t[k].toNat\/(m:Int)<=(t[k].toNat:Int)+1)/\c=zb .i64 m/\zf w.heap.size w wz/\a9 wz w.heap.size (io f t[k].toNat m))
     (λc _=>((t[k].toNat:Int)+1-intOf c).toNat)
    case atStart=>exact⟨t[k].toNat,aq _,.inl rfl,rfl,hb,by unfold a9;rw[CN];exact Hr.out⟩
    case round=>
     obtain⟨m,oI,fZ,rfl,ez,bY⟩:=hrel
     by_cases Co:(m:Int)<=(t[k].toNat:Int)
     ·have lL:m<256:=by omega
      have c0:=bY.get lL;have f0:=bY.thaw m;generalize io f t[k].toNat m m=old at c0;obtain⟨WZ,tH⟩:∃WZ,WZ=wr:=⟨_,rfl⟩;subst tH;have HP:za (a9 (WZ.setCell ⟨w.heap.size,m,zd⟩ (.bool true)) w.heap.size (io f t[k].toNat (m+1))):=by
       show a9 _ _ _;unfold a9;rw[cJ _ _ _ _ _ _ bY,CS,CM _ _ _ oI]
      clear bY;go_wp2
      go_roundw
      case rel=>exact⟨m+1,by omega,by omega,by go_num,ez.setCell (by simp) _,HP.out⟩
      case measure=>simp[intOf];omega
     ·have oq:za _:=bY.grown fZ (show (t[k].toNat:Int)<m by omega);clear bY;go_wp2
      go_roundw
      case rel=>exact⟨k+1,_,by go_num,oq.out,ez,HS.out.step hlt ot.out HI.out (by have:=BH.out;omega) rfl⟩
      case measure=>simp[intOf];omega
   have Xc:(T2 != 93)=true:=by simpa using tG
   go_wp2_with fail
   refine FO.mono ?_;rintro e w2 ⟨rfl,rfl⟩;clear FO
   by_cases tK:T2=91/\(T3=46\/T3=61\/T3=58)
   case pos=>
    have HN:za _:=HS.out.AE ot.out (TD (by rw[jl.out];exact FL.out) (by rw[fM.out];exact Gv) (by rw[fM.out];exact tG) (by rw[iZ.out,fM.out,nw.out];omega));have gy:=ay Hr.out;obtain⟨e1,e2⟩:=tK;have o8:(T2==91)=true:=by simpa using e1
    clear e1
    by_cases e3:T3=46
    ·have vM:(T3==46)=true:=by simpa using e3
     clear e3 e2;go_wp2;refine aW (v:=.tuple #[ze (zc ⟨w.heap.size,0,zd⟩) 256 256,zb .i64 (-1)]) (by simp[results,results93,go_sem]) rfl ?_;exact .bad hb gy HN.out
    have vM:(T3==46)=false:=by simpa using e3
    by_cases e4:T3=61
    ·have Gh:(T3==61)=true:=by simpa using e4
     clear e4 e2 e3;go_wp2;refine aW (v:=.tuple #[ze (zc ⟨w.heap.size,0,zd⟩) 256 256,zb .i64 (-1)]) (by simp[results,results93,go_sem]) rfl ?_;exact .bad hb gy HN.out
    have Gh:(T3==61)=false:=by simpa using e4
    have e5b:(T3==58)=true:=by simp;omega
    clear e4 e2 e3;go_wp2;refine aW (v:=.tuple #[ze (zc ⟨w.heap.size,0,zd⟩) 256 256,zb .i64 (-1)]) (by simp[results,results93,go_sem]) rfl ?_;exact .bad hb gy HN.out
   go_upto_region 45 with fail
   go_cut [183] from 170 to 183 (λv wx=>v=.bool false/\wx=w2)
   case first=>
    by_cases e1:T2=91
    ·have o8:(T2==91)=true:=by simpa using e1
     have Gg:(T3==46)=false:=by simp;omega
     have vM:(T3==61)=false:=by simp;omega
     have Gh:(T3==58)=false:=by simp;omega
     clear e1
     go_wp2_with fail
     go_meet
     case rel=>exact⟨rfl,rfl⟩
    ·have o8:(T2==91)=false:=by simpa using e1
     go_wp2_with fail
     go_meet
     case rel=>exact⟨rfl,rfl⟩
   obtain⟨rfl,rfl⟩:=hcut
   by_cases nJ:T2<(t[k].toNat:Int)
   case pos=>
    have HN:za _:=HS.out.AE ot.out (TD (by rw[jl.out];exact FL.out) (by rw[fM.out];exact Gv) (by rw[fM.out];exact tG) (by rw[iZ.out,fM.out,nw.out];omega));have gy:=ay Hr.out;go_wp2;refine aW (v:=.tuple #[ze (zc ⟨w.heap.size,0,zd⟩) 256 256,zb .i64 (-1)]) (by simp[results,results93,go_sem]) rfl ?_;exact .bad hb gy HN.out
   go_wp2;have HI:za (jN (t.data.toList.drop k)=zc (iq (t[k].toNat:Int) T2,3)):=by
    show _=_;rw[zhD (by rw[jl.out];exact FL.out) (by rw[fM.out];exact Gv) (by rw[fM.out];exact tG) (by rw[iZ.out,fM.out,nw.out];omega),iZ.out,fM.out]
   go_loopw [22] (λc wz=>∃m:Nat,t[k].toNat<=m/\(m=t[k].toNat\/(m:Int)<=T2+1)/\c=zb .i64 m/\zf w.heap.size w wz/\a9 wz w.heap.size (io f t[k].toNat m))
    (λc _=>(T2+1-intOf c).toNat)
   case atStart=>exact⟨t[k].toNat,aq _,.inl rfl,rfl,hb,by unfold a9;rw[CN];exact Hr.out⟩
   case round=>
    obtain⟨m,oI,fZ,rfl,ez,bY⟩:=hrel
    by_cases Co:(m:Int)<=T2
    ·have lL:m<256:=by omega
     have c0:=bY.get lL;have f0:=bY.thaw m;generalize io f t[k].toNat m m=old at c0;obtain⟨WZ,tH⟩:∃WZ,WZ=wr:=⟨_,rfl⟩;subst tH;have HP:za (a9 (WZ.setCell ⟨w.heap.size,m,zd⟩ (.bool true)) w.heap.size (io f t[k].toNat (m+1))):=by
      show a9 _ _ _;unfold a9;rw[cJ _ _ _ _ _ _ bY,CS,CM _ _ _ oI]
     clear bY;go_wp2
     go_roundw
     case rel=>exact⟨m+1,by omega,by omega,by go_num,ez.setCell (by simp) _,HP.out⟩
     case measure=>simp[intOf];omega
    ·have oq:za _:=bY.grown fZ (show T2<m by omega);clear bY;go_wp2
     go_roundw
     case rel=>exact⟨k+3,_,by go_num,oq.out,ez,HS.out.step hlt ot.out HI.out (by have:=BH.out;omega) rfl⟩
     case measure=>simp[intOf];omega
end Go.Proofs.YtfajjdgkiilhfaaGreatDoor
