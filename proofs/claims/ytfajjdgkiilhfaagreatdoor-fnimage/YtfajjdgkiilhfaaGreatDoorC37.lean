import Derived.Test.YtfajjdgkiilhfaaGreatDoorC36
import Derived.Deep.Cut
import Derived.Deep.CutRange
namespace Go.Proofs.YtfajjdgkiilhfaaGreatDoor
open Proofs.Tryz
open Option renaming none->za,some->zb
open Value renaming slice->zc,int->zd
open Obj renaming cells->zf
open RowKit renaming Below->zg
set_option maxHeartbeats 8000000
set_option maxRecDepth 100000
open Go.RowKit
attribute [local go_sem ↓] wp_at_zero wp_at_succ
theorem zp2{p:Prop} [Decidable p] {b:Bool}(h:p↔b=true):decide p=b:=by
 by_cases hp:p
 ·rw[h.1 hp];exact decide_eq_true hp
 ·cases hb:b with
  |false=>exact decide_eq_false hp
  |true=>exact absurd (h.2 hb) hp
def zAv(w:World)(bs:List dc)(g:Nat)(e:Ending)(w':World):Prop:=(2000<gG bs->AA w .zero 10 0 e w')/\(¬2000<gG bs->AA w ⟨bs,(g:Int)⟩ 0 0 e w')
theorem ze1(t:ByteArray)(w:World)(hs:t.size<=2000){l:List Tok}{bs:List dc}{g:Nat}(hl:kE t.data.toList 0 []=(l,0,0))(bm:∀j,j<l.length->lu l j=0)(ho:¬dZ (dx l l.length))(hd:aX l l.length=0)(hR:Rl 0 l bs g):
  Calls prog 63 #[.string t] w (zAv w bs g):=by
 obtain⟨ts,Ju,NY,G9,aD,bF,zt,fV⟩:=zvF hR;have h0:0<l.length:=by omega
 have HBj:=ah Ju;have VF:=ah NY;have VE:=ah G9;have Hgn:=ah zt;have gM:=ah fV;have HR:=ah hR;have zyw:bs.length<=l.length:=bF;clear Ju NY G9 zt fV hR bF;have h1:¬(2000:Int)<(t.size:Int):=by omega
 have hk:=Fh t.data.toList t.data.toList.length 0 [] (by omega) (by simp) (by simp) (by simp);rw[hl]at hk;obtain⟨cC,dY,_⟩:=hk;have hsz:t.data.toList.length=t.size:=iW;have RP:l.length<=t.data.toList.length:=dY;have cC:∀x∈l,uB x/\x.kind<7:=cC;have dY:l.length<=2000:=by omega
 clear hsz
 go_enter func63,ntmps63
 go_wp2_with fail
 obtain⟨W1,cZ⟩:∃W1,W1=w.alloc (zf #[zc za 0 0,zd .i64 0] 101):=⟨_,rfl⟩;have hP:W1.heap[w.heap.size]?=zb (zf #[zc za 0 0,zd .i64 0] 101 (0,0)):=by rw[cZ];exact aJ _ _
 have dA:zg w.heap.size w W1:=by rw[cZ];exact ax
 rw[<-cZ];clear cZ;refine(OM t W1 (by omega)).mono ?_;rw[hl];rintro e w2 ⟨aB,sv,q,rfl,hS⟩;have fO:=aT hP aB;have dk:=aH dA dA.size aB;have hS:mK W1.heap.size w2 sv l q:=hS;have HS:=ah hS;have yR:=ah cC;have B8:=hP;clear hP hS cC;have hG:=HS.out.to yR.out h0;obtain⟨G,cc,rfl,hV,pO,jE⟩:=hG;have Ef:w.heap.size≠G:=by have h1:W1.heap.size<=G:=(dU HS.out.row rfl).1;have:=ay B8;omega
 have HV:=ah hV;obtain⟨n,hn⟩:∃n,n=l.length:=⟨_,rfl⟩;have kA:n<=2000:=by omega
 have EE:0<n:=by omega
 have nH:(n:Int)<=(cc:Int):=by omega
 have Cg:(cc:Int)<=9223372036854775807:=by omega
 have HN:=ah hn;rw[<-hn];obtain⟨r0,r1,f0,f1⟩:=jK fO;clear hV hn dY;go_wp2
 go_loop [35] (λi=>∃j:Nat,j<=n/\i=zd .i64 (j:Int)) (λi=>n-(intOf i).toNat)
 case atStart=>exact⟨0,by omega,rfl⟩
 case round=>
  obtain⟨j,hj,rfl⟩:=hrel
  by_cases hlt:j<n
  ·have sf:(j:Int)<(n:Int):=by omega
   have hC:=Th (c:=cc) w2 HV.out (k:=j) (by have:=HN.out;omega) (by have:=HN.out;omega);rw[<-HN.out,bm j (by have:=HN.out;omega)]at hC
   go_wp2_with fail
   refine hC.mono ?_;rintro e w3 ⟨rfl,hw⟩;rw[hw];clear hw w3 hC;go_wp2
   go_round
   case rel=>exact⟨j+1,by omega,by go_num⟩
   case measure=>simp[intOf];omega
  have sf:j=n:=by omega
  subst sf;have tE:Fu l:=λk hk=>HV.out.qG k hk
  have mO:=TP tE (k:=l.length) (aq _);have hC:=SW (c:=cc) w2 HV.out (k:=l.length) (ck:=(j:Int)-1) (aq _) (by have:=HN.out;omega);rw[<-HN.out]at hC mO;have AP:dx l j≠7:=by unfold dx;rw[ab (by omega)];have:=tE (j-1) (by have:=HN.out;omega);omega
  have p1:(pB (dx l j)==40)=decide (dx l j=1):=Ad mO 1 (by omega);have p3:(pB (dx l j)==124)=decide (dx l j=3):=Ad mO 3 (by omega);have p5:(pB (dx l j)==94)=decide (dx l j=5):=Ad mO 5 (by omega);have P1:=ah p1;have P3:=ah p3;have P5:=ah p5;rw[<-HN.out]at ho;have HO:=ah ho;have PU:=ah AP;have GL:((j:Int)==0)=false:=by simp;omega
  clear p1 p3 p5 ho AP tE mO hj hlt;generalize dx l j=PK at *;generalize pB PK=PB at *
  go_wp2_with fail
  refine hC.mono ?_;rintro e w3 ⟨rfl,hw⟩;rw[hw];clear hw w3 hC;have q1:(PB==40)=false:=by rw[P1.out];have:=HO.out;simp[dZ]at this;simp;omega
  have q3:(PB==124)=false:=by rw[P3.out];have:=HO.out;simp[dZ]at this;simp;omega
  have q5:(PB==94)=false:=by rw[P5.out];have:=HO.out;simp[dZ]at this;simp;omega
  have hD:=KO (c:=cc) w2 HV.out (k:=l.length) (ck:=(j:Int)) (aq _) (by have:=HN.out;omega) (by have:=HN.out;omega);rw[<-HN.out]at hD;rw[<-HN.out]at hd;rw[hd]at hD;clear hl hd bm
  go_wp2_with fail
  refine hD.mono ?_;rintro e w3 ⟨rfl,hw⟩;rw[hw];clear hw w3 hD;have hsb:=dk.size;obtain⟨B2,Ww⟩:∃B2,B2=w2.heap.size:=⟨_,rfl⟩;go_wp2
  go_loopw [105] (λi wr=>∃k:Nat,k<=j/\i=zd .i64 (k:Int)/\zg w2.heap.size w2 wr/\Hid (wr.heap[w2.heap.size]?=zb (zf #[zc za 0 0,zd .i64 ((dh l k:Nat):Int)] 101 (0,0)))) (λi _=>j-(intOf i).toNat)
  case atStart=>exact⟨0,by omega,rfl,ax,aJ _ _⟩
  case round=>
   obtain⟨k,hk,rfl,dJ,HB⟩:=hrel;have hsr:=dJ.size;have sw:=ay HB.out
   by_cases hlt:k<j
   ·have X5:(k:Int)<(j:Int):=by omega
    have dY:k<l.length:=by have:=HN.out;omega
    have Cb:=HV.out.below dJ;have Yd:=Uf l k;obtain⟨sr,sn,sc,jF⟩:∃r n c,CJ (l.getD k iP) (q k)=.slice r n c:=by unfold CJ;split<;>exact⟨_,_,_,rfl⟩
    have k0:=Cb.CD dY;have k1:=Cb.Y4 dY;have k2:=Cb.zzP dY;have k3:=Cb.SC dY;have k4:=Cb.zzO dY;rw[jF]at k2;rw[iH]at k0 k1 k2 k3 k4;have e1:(kB (aS l k)==40)=decide (aS l k=1):=Dk (HV.out.qG k dY) 1 (by omega);have zzg:dh l (k+1)=dh l k+(if aS l k=1 then 1 else 0):=rfl;have HNu:=ah zzg;clear Cb jF zzg;generalize hKA:aS l k=KA at *;generalize kB KA=KB at *;generalize ((l.getD k iP).pos:Int)=PP at *;generalize mS 0 l k=MM at *;generalize (l.getD k iP).mx=MX at *;generalize hNK:dh l k=NK at *;have pU:wr.heap.size≠w2.heap.size:=by omega
    have b1:=(jK HB.out).2.1;have g1:=(jK HB.out).2.2.2;have Gx:∀C:Array Value,(wr.alloc (zf C 145)).heap[w2.heap.size]?=zb (zf #[zc za 0 0,zd .i64 (NK:Int)] 101 (0,0)):=λC=>qK HB.out
    by_cases bO:KA=1
    ·have o8:(KB==40)=true:=by rw[e1];simpa using bO
     have HX:Hid (((wr.setCell ⟨w2.heap.size,1,za⟩ (zd .i64 ((NK:Int)+1))).alloc (zf #[.int .u8 KB,zd .i64 PP,.slice sr sn sc,zd .i64 MM,zd .i64 MX] 145)).heap[w2.heap.size]?=zb (zf #[zc za 0 0,zd .i64 ((dh l (k+1):Nat):Int)] 101 (0,0))):=by
      show _=_;rw[qK (mq HB.out 1 _),HNu.out,af bO]
      rfl
     clear e1 bO Gx;go_wp2
     go_roundw
     case rel=>exact⟨k+1,by omega,by go_num,(dJ.setCell (p:=⟨w2.heap.size,1,za⟩) (aq _) _).alloc (by simp;omega) _,HX⟩
     case measure=>simp[intOf];omega
    ·have o8:(KB==40)=false:=by rw[e1];simpa using bO
     have HX:Hid ((wr.alloc (zf #[.int .u8 KB,zd .i64 PP,.slice sr sn sc,zd .i64 MM,zd .i64 MX] 145)).heap[w2.heap.size]?=zb (zf #[zc za 0 0,zd .i64 ((dh l (k+1):Nat):Int)] 101 (0,0))):=by
      show _=_;rw[Gx,HNu.out,ab bO]
      rfl
     clear e1 bO Gx;go_wp2
     go_roundw
     case rel=>exact⟨k+1,by omega,by go_num,dJ.alloc hsr _,HX⟩
     case measure=>simp[intOf];omega
   have X5:k=j:=by omega
   subst X5;have nG:=dk.size;have fP:zg w.heap.size w wr:=aH dk dk.size dJ;have hgj:((dh l k:Nat):Int)=(g:Int):=by rw[HN.out,Hgn.out,iH]
   rw[hgj]at HB;have nI:=zqH HBj.out VE.out;have hS:=zi3 (c:=cc) wr (HV.out.below dJ) (by have:=HN.out;omega) (by have:=HN.out;omega) (by omega) nI;have NI:=zlJ HBj.out λt ht=>⟨(VE.out t ht).1,(VE.out t ht).2.1⟩
   rw[<-HN.out]at hS;have Vz:=ah NI;obtain⟨R0,WW⟩:∃R0,R0=wr:=⟨_,rfl⟩;subst WW;clear hgj nI NI hlt hk
   go_wp2_with fail
   refine hS.mono ?_;rintro e w3 ⟨pv,rfl,ze,fD⟩;rw[Vz.out]at ze;have du:(iO 0 ts).length=bs.length:=by rw[TM];exact VF.out
   obtain⟨M,hM⟩:∃M,M=bs.length:=⟨_,rfl⟩;rw[du,<-hM]at ze;have JF:0<M:=by omega
   have hM2:M<=2000:=by have:=HN.out;omega
   obtain⟨gp,cp,Yo,zBC,zBD⟩:=ze.form JF;subst Yo;have Es:∀t,t<M->w3.cell? ⟨gp,t,za⟩=zb (zM G 0 cc ((iO 0 ts).getD t (0,0))):=by
    intro t ht;rw[ze.cellAt t (by omega),wV,bJ,bE (by omega)]
    rfl
   have Vl:=ah Es;have qn:=ah hM;have zDY:=ay HB.out;have yI:=ah (aT HB.out fD);have zBf:=aH dJ dJ.size fD;clear Es ze du hM hS HB;go_wp2
   go_loopw [120] (λi wz=>∃(x:Nat) (bv:Value),x<=M/\i=zd .i64 (x:Int)/\zg w2.heap.size w2 wz/\w3.heap.size<=wz.heap.size/\Hid (wz.heap[w2.heap.size]?=zb (zf #[bv,zd .i64 (g:Int)] 101 (0,0))/\oV (w2.heap.size+1) wz bv (bs.take x)/\bv.ownBlock≠zb gp/\wz.heap[gp]?=w3.heap[gp]?)) (λi _=>M-(intOf i).toNat)
   case atStart=>exact⟨0,zc za 0 0,by omega,rfl,zBf,aq _,yI.out,oV.nil _ _,by simp[Value.ownBlock],rfl⟩
   case round=>
    obtain⟨x,bv,hx,rfl,ez,hwz,HT⟩:=hrel;have hsz:=ez.size;have Rx:=aH dk dk.size ez;have zDZ:=ay HT.out.1
    by_cases hxM:x<M
    case neg=>
     have zJ:x=M:=by omega
     subst zJ;have QU:oV (w2.heap.size+1) wr bv bs:=by
      have:=HT.out.2.1;rw[qn.out,sW]at this;exact this
     have zBo:∃gb cb,bv=zc (zb ⟨gb,0,za⟩) bs.length cb:=by
      obtain⟨nv,ho,_⟩:=QU;obtain⟨gb,cb,e,_⟩:=ho.form (by have:=qn.out;omega);exact⟨gb,cb,e⟩
     obtain⟨gb,cb,hbv⟩:=zBo;subst hbv;have zzA:∀x∈l,uB x:=λx hx=>(yR.out x hx).1
     obtain⟨zyd,zyo⟩:=ztK HR.out zzA (by have:=HN.out;omega);have hC:=Oq (lo:=w2.heap.size) (g:Int) _ bs wr (QU.at (by omega)) zyo zyd;have HBO:=ah QU;obtain⟨z0,z1,-,-⟩:=jK HT.out.1;have hPr:=ah fO;generalize hBL:bs.length=BL at *;clear QU zyo zyd zzA r0 r1 f0 f1
     go_wp2_with fail
     refine hC.mono ?_;rintro e w4 ⟨rfl,de⟩;obtain⟨y0,y1,-,-⟩:=jK (aT HT.out.1 de);have Em:=aH ez hsz de;obtain⟨r0,r1,f0,f1⟩:=jK (aT hPr.out Em);have zyz:=aH dk dk.size Em;clear hC;have zD6:w.heap.size<w2.heap.size:=ay hPr.out
     by_cases fG:2000<gG bs
     ·go_wp2;refine aW (v:=.tuple #[.agg #[zc za 0 0,zd .i64 0],zd .i64 10,zd .i64 0]) (by simp[results,results63,go_sem,r0,r1]) rfl ?_;refine⟨λ_=>?_,λh=>absurd fG h⟩;exact .bad ((zyz.setCell (aq _) _).setCell (aq _) _) rfl rfl
     ·go_wp2;refine aW (v:=.tuple #[.agg #[zc (zb ⟨gb,0,za⟩) BL cb,zd .i64 (g:Int)],zd .i64 0,zd .i64 0]) (by simp[results,results63,go_sem,r0,r1]) rfl ?_;refine⟨λh=>absurd h (by omega),λ_=>?_⟩;refine⟨(zyz.setCell (aq _) _).setCell (aq _) _,_,rfl,?_⟩;have h9:oV (w2.heap.size+1) ((w4.setCell ⟨w.heap.size,0,za⟩ (zc (zb ⟨gb,0,za⟩) BL cb)).setCell ⟨w.heap.size,1,za⟩ (zd .i64 (g:Int))) (zc (zb ⟨gb,0,za⟩) BL cb) bs:=by
       refine oV.keep HBO.out (by have:=de.size;simp;omega) λb h1 h2=>?_
       rw[Below.heap_setCell _ _ _ _ (by simp;omega),Below.heap_setCell _ _ _ _ (by simp;omega),de.block b h2]
      exact h9.at (by omega)
    have hxI:(x:Int)<(M:Int):=by omega
    have EP:x<bs.length:=by have:=qn.out;omega
    obtain⟨a,tk,c2,hlt,oJ,g2,uF⟩:=gM.out x EP;obtain⟨ti,Gl,zyN⟩:=ztV uF;have c5:wr.cell? ⟨gp,x,za⟩=zb (zc (zb ⟨G,a.length*5,za⟩) tk.length (cc-a.length)):=by
     have c5:=Vl.out x hxM;rw[oJ]at c5;rw[World.cell?_of_block (w:=w3) HT.out.2.2.2,c5];unfold zM;rw[lV,iH]
    have Re:∀W,zg w2.heap.size w2 W->gP W G (a.length*5) (dh a a.length) tk (λi=>q (a.length+i)):=by
     intro W hW;have h2:=HV.out.below hW;rw[hlt]at h2;have h3:=h2.sub;rw[iH,iH]at h3;exact h3
    have hAl:a.length+tk.length<=k:=by have:=HN.out;have h9:=congrArg List.length hlt;simp at h9;omega
    have YG:0<tk.length:=pC.2 (zmt uF).2.2.1;obtain⟨nT,nsT,QW,_⟩:=id Gl;have zzx:0<ti.length:=pC.2 (wP QW);obtain⟨d,sJ,Rw,JU⟩:∃(d:Nat) (sJ:List Tok),(((bs.getD x .zero).bol=true/\d=1/\∃y:Tok,y.kind=5/\tk=y::sJ)\/((bs.getD x .zero).bol=false/\d=0/\tk=sJ))/\(((bs.getD x .zero).eol=true/\∃y:Tok,y.kind=6/\sJ=ti++[y])\/((bs.getD x .zero).eol=false/\sJ=ti)):=by
     rcases zyN with ⟨h1,h2,h3⟩|⟨y,hy,h1,h2,h3⟩|⟨y,hy,h1,h2,h3⟩|⟨y,z,hy,hz,h1,h2,h3⟩
     ·exact⟨0,ti,.inr ⟨h1,rfl,h3⟩,.inr ⟨h2,rfl⟩⟩
     ·exact⟨1,ti,.inl ⟨h1,rfl,y,hy,h3⟩,.inr ⟨h2,rfl⟩⟩
     ·exact⟨0,ti++[y],.inr ⟨h1,rfl,h3⟩,.inl ⟨h2,y,hy,rfl⟩⟩
     ·exact⟨1,ti++[z],.inl ⟨h1,rfl,y,hy,h3⟩,.inl ⟨h2,z,hz,rfl⟩⟩
    have Sn:∃pre:List Tok,tk=pre++(sJ++[])/\pre.length=d/\dh pre pre.length=0:=by
     rcases Rw with ⟨_,h2,y,hy,h3⟩|⟨_,h2,h3⟩
     ·exact⟨[y],by rw[h3];simp,by rw[h2];rfl,by rw[show [y].length=1 from rfl,zW,ab (by omega)]⟩
     ·exact⟨[],by rw[h3];simp,by rw[h2];rfl,rfl⟩
    obtain⟨pre,Ym,du,NM⟩:=Sn;have xH:tk.length=d+sJ.length:=by rw[Ym];simp;omega
    have Xi:∀W,zg w2.heap.size w2 W->gP W G (a.length*5+d*5) (dh a a.length) sJ (λi=>q (a.length+(d+i))):=by
     intro W hW;have h2:=Re W hW;rw[Ym]at h2;have h3:=h2.sub;rw[NM,du,Aq]at h3;exact h3
    have zzy:ti.length<=sJ.length/\sJ.length<=ti.length+1:=by
     rcases JU with ⟨_,y,hy,h3⟩|⟨_,h3⟩<;>rw[h3]<;>simp
    have hVt:∀W,zg w2.heap.size w2 W->gP W G (a.length*5+d*5) (dh a a.length) ti (λi=>q (a.length+(d+i))):=by
     intro W hW;have h2:=Xi W hW;rcases JU with ⟨_,y,hy,h3⟩|⟨_,h3⟩
     ·rw[h3]at h2;have h4:=gP.sub (a:=[]) (b:=ti) (c:=[y]) h2
      simpa [dh]using h4
     ·rw[h3]at h2;exact h2
    have kX:aS tk 0=5↔(bs.getD x .zero).bol=true:=by
     rcases Rw with ⟨h1,h2,y,hy,h3⟩|⟨h1,h2,h3⟩
     ·rw[h1,h3];exact⟨λ_=>rfl,λ_=>hy⟩
     ·rw[h1,h3];constructor
      ·intro h5;have h6:aS sJ 0=aS ti 0:=by
        rcases JU with ⟨_,z,_,h7⟩|⟨_,h7⟩<;>rw[h7]
        rw[wI _ zzx]
       have:=zmM QW;omega
      ·intro h;cases h
    have RO:aS sJ (sJ.length-1)=6↔(bs.getD x .zero).eol=true:=by
     rcases JU with ⟨h1,y,hy,h3⟩|⟨h1,h3⟩
     ·rw[h1,h3];exact⟨λ_=>rfl,λ_=>by rw[aQ,show [y].length=1 from rfl,II];exact(O0 ti y).trans hy⟩
     ·rw[h1,h3];constructor
      ·intro h5;have:=zsB QW (ti.getD (ti.length-1) iP) (by rw[bJ,bE (by omega)];exact gA _);unfold aS at h5;omega
      ·intro h;cases h
    have cQ:zg w2.heap.size w2 (wr.alloc (zf #[.bool false,.bool false,zc za 0 0] 115)):=ez.alloc hsz _;have k0:=(Re _ cQ).CD YG;rw[Nat.zero_mul,Aq]at k0;have e1:(kB (aS tk 0)==94)=(bs.getD x .zero).bol:=(Dk ((Re _ cQ).qG 0 YG) 5 (by omega)).trans (zp2 kX);generalize zA3:(bs.getD x .zero).bol=IR at *;generalize zA5:(bs.getD x .zero).eol=IU at *;generalize kB (aS tk 0)=KB0 at *;have Vf:=ah Xi;have HVt:=ah hVt;have Hke:=ah RO;have l7:=ah xH;have Ql:=ah zzy;have Mp:=ah hlt;have zzW:=ah Gl;obtain⟨L1,AO⟩:∃L1,L1=tk.length:=⟨_,rfl⟩;obtain⟨L2,QZ⟩:∃L2,L2=sJ.length:=⟨_,rfl⟩;have eM:(IR=true/\d=1)\/(IR=false/\d=0):=by
     rcases Rw with ⟨h1,h2,_⟩|⟨h1,h2,_⟩
     ·exact .inl ⟨h1,h2⟩
     ·exact .inr ⟨h1,h2⟩
    have zq:(IU=true/\L2=ti.length+1)\/(IU=false/\L2=ti.length):=by
     rcases JU with ⟨h1,y,hy,h2⟩|⟨h1,h2⟩
     ·exact .inl ⟨h1,by rw[QZ,h2];simp⟩
     ·exact .inr ⟨h1,by rw[QZ,h2]⟩
    have Ax:=ah eM;have Hde:=ah zq;have Q4:L1=d+L2:=by omega
    have zCW:L1<=2000:=by omega
    have zA7:L2<=L1:=by omega
    have LZ:=ah Q4;have zCV:0<L1:=by omega
    have zCX:0<L2:=by omega
    have hcA:a.length+L1<=cc:=by omega
    rw[<-AO]at c5;obtain⟨O1,Q8⟩:∃O1,O1=a.length*5:=⟨_,rfl⟩;obtain⟨C1,hC1⟩:∃C1,C1=cc-a.length:=⟨_,rfl⟩;rw[<-Q8,<-hC1]at c5;rw[<-Q8]at k0 Vf HVt;have zCP:L1<=C1:=by omega
    have zCQ:C1<=9223372036854775807:=by omega
    have LX:=ah QZ;clear Re Xi hVt RO kX xH zzy hlt Gl zyN Rw JU Ym du NM oJ uF QW AO QZ eM zq Q8 hC1 hAl YG hcA zzx Q4;have Q1:(0:Int)<(L1:Int):=by omega
    go_upto_region 32 with fail
    obtain⟨W5,oC⟩:∃W5,W5=wr.alloc (zf #[.bool false,.bool false,zc za 0 0] 115):=⟨_,rfl⟩;have MT:W5.heap[wr.heap.size]?=zb (zf #[.bool false,.bool false,zc za 0 0] 115 (0,0)):=by rw[oC];exact aJ _ _
    have hbQ:zg wr.heap.size wr W5:=by rw[oC];exact ax
    rw[<-oC]at k0 ⊢;clear oC cQ
    go_cut [129] from 121 to 128 (λv wx=>v=.bool IR/\wx=W5)
    case first=>
     go_wp2
     go_meet
     case rel=>exact⟨rfl,rfl⟩
    obtain⟨rfl,xV⟩:=hcut;subst xV
    rename_i Jz
    refine Jz _ _ ?_;clear k0 e1 c5
    go_cut [16] from 121 to 132 (λv wx=>v=zc (zb ⟨G,O1+d*5,za⟩) L2 (C1-d)/\Hid (wx.heap[wr.heap.size]?=zb (zf #[.bool IR,.bool false,zc za 0 0] 115 (0,0)))/\zg wr.heap.size wr wx)
    case first=>
     rcases Ax.out with ⟨hB,hd⟩|⟨hB,hd⟩
     ·subst hB hd;have i1:(1:Int)<=(L1:Int):=by omega
      have i2:(1:Int)<=(C1:Int):=by omega
      have i3:(L1:Int)<=(C1:Int):=by omega
      have i4:¬C1-1=0:=by have:=LZ.out;omega
      have i5:L1-1=L2:=by have:=LZ.out;omega
      have q0:=cG MT 0;have q1:wc.frozen? ⟨wr.heap.size,0,za⟩=false:=aM _ _ _ _ _ MT;have HQ5:=ah MT;clear MT;go_wp2
      go_meet
      case rel=>exact⟨by rw[Nat.one_mul],mq HQ5.out 0 _,hbQ.setCell (aq _) _⟩
     ·subst hB hd;have hLe:L1=L2:=by have:=LZ.out;omega
      clear LZ zA7;subst hLe;go_wp2
      go_meet
      case rel=>exact⟨rfl,MT,hbQ⟩
    obtain⟨qF,PV,iu⟩:=hcut;subst qF;have Gz:=aH ez hsz iu;have k0:=(Vf.out _ Gz).CD (k:=L2-1) (by have:=LX.out;omega);have XY:=Hke.out;rw[<-LX.out]at XY;have e1:(kB (aS sJ (L2-1))==36)=IU:=(Dk ((Vf.out _ Gz).qG (L2-1) (by have:=LX.out;omega)) 6 (by omega)).trans (zp2 XY);generalize kB (aS sJ (L2-1))=KB1 at *;generalize hO2:O1+d*5=O2 at *;generalize zCT:C1-d=C2 at *;have zCR:L2<=C2:=by have:=LZ.out;omega
    have zCS:C2<=9223372036854775807:=by omega
    have i1:((L2:Int)-1).toNat=L2-1:=by omega
    have i2:(0:Int)<=(L2:Int)-1:=by omega
    have i3:(L2:Int)-1<(L2:Int):=by omega
    have i4:(L2:Int)-1<=(C2:Int):=by omega
    have i5:(L2:Int)<=2000:=by omega
    clear XY;have zDI:L2<=2000:=by omega
    go_upto_region 35 with fail
    go_cut [140] from 121 to 139 (λv wx=>v=.bool IU/\wx=wc)
    case first=>
     go_wp2
     go_meet
     case rel=>exact⟨rfl,rfl⟩
    obtain⟨rfl,xV⟩:=hcut;subst xV
    rename_i hK1
    refine hK1 _ _ ?_;clear k0 e1
    go_cut [16] from 121 to 146 (λv wx=>v=zc (zb ⟨G,O2,za⟩) ti.length C2/\Hid (wx.heap[wr.heap.size]?=zb (zf #[.bool IR,.bool IU,zc za 0 0] 115 (0,0)))/\zg wr.heap.size wr wx)
    case first=>
     have q0:=cG PV.out 1;have q1:wc.frozen? ⟨wr.heap.size,1,za⟩=false:=aM _ _ _ _ _ PV.out;rcases Hde.out with ⟨hE,zq⟩|⟨hE,zq⟩
     ·have Ki:ti.length=L2-1:=by omega
      have VD:=ah Ki;clear Ki zq Ql;subst hE;go_wp2
      go_meet
      case rel=>exact⟨by rw[VD.out],mq PV.out 1 _,iu.setCell (aq _) _⟩
     ·have VD:=ah zq;clear zq Ql;subst hE;go_wp2
      go_meet
      case rel=>exact⟨by rw[VD.out],PV,iu⟩
    obtain⟨qF,HQ7,ij⟩:=hcut;subst qF;have En:=aH ez hsz ij;have hC:=zsM (c:=C2) _ zzW.out (by have h9:=HVt.out _ En;rw[iH];exact h9) (by have:=Ql.out;have:=LX.out;omega) (by have:=Ql.out;have:=LX.out;omega) (by omega);have Yv:=ij.size;have hq7:=ay HQ7.out;generalize ti.length=TL at *
    go_wp2_with fail
    refine hC.mono ?_;rintro e w8 ⟨v8,rfl,Gt,gQ⟩;obtain⟨b8,c8,s8,hv8,-⟩:=id Gt;subst hv8;have Yw:=gQ.size;have JI:=aT HQ7.out gQ;have zBg:=aH En En.size gQ;have mO:w8.heap[w2.heap.size]?=zb (zf #[bv,zd .i64 (g:Int)] 101 (0,0)):=by
     rw[gQ.block _ (by omega),ij.block _ (by omega)];exact HT.out.1
    obtain⟨pz0,pz1,pf0,pf1⟩:=jK mO;obtain⟨qz0,qz1,qz2⟩:w8.cell? ⟨wr.heap.size,0,za⟩=zb (.bool IR)/\w8.cell? ⟨wr.heap.size,1,za⟩=zb (.bool IU)/\w8.cell? ⟨wr.heap.size,2,za⟩=zb (zc za 0 0):=⟨cG JI 0,cG JI 1,cG JI 2⟩;have qf2:w8.frozen? ⟨wr.heap.size,2,za⟩=false:=aM _ _ _ _ _ JI;have Xx:∀b,bv.ownBlock=zb b->w2.heap.size+1<=b/\b<wr.heap.size:=λb e=>by
     obtain⟨nv,ho,_⟩:=HT.out.2.1;exact dU ho e
    have zDT:w2.heap.size≠wr.heap.size:=by omega
    have Xj:(w8.setCell ⟨wr.heap.size,2,za⟩ (zc (zb ⟨b8,0,za⟩) (bs.getD x .zero).nodes.length c8)).heap.size=w8.heap.size:=by simp
    have hB9:oV (w2.heap.size+1) (w8.setCell ⟨wr.heap.size,2,za⟩ (zc (zb ⟨b8,0,za⟩) (bs.getD x .zero).nodes.length c8)) bv (bs.take x):=by
     refine oV.keep HT.out.2.1 (by rw[Xj];omega) λb h1 h2=>?_
     rw[Below.heap_setCell _ _ _ _ (by show b≠wr.heap.size;omega),gQ.block b (by omega),ij.block b h2]
    have hN9:fU (λb=>w2.heap.size+1<=b/\bv.ownBlock≠zb b) (w8.setCell ⟨wr.heap.size,2,za⟩ (zc (zb ⟨b8,0,za⟩) (bs.getD x .zero).nodes.length c8)) (zc (zb ⟨b8,0,za⟩) (bs.getD x .zero).nodes.length c8) (bs.getD x .zero).nodes:=by
     refine(Gt.keep (W':=w8.setCell _ _) (by rw[Xj];exact aq _) λb h1 h2=>Below.heap_setCell _ _ _ _ (by show b≠wr.heap.size;omega)).mono λb h1 _=>⟨by omega,λe=>by have:=(Xx b e).2;omega⟩
    have HB9:=ah hB9;have HN9:=ah hN9;have HP8:=ah mO;have HQ8:=ah JI;have zxK:=ah Xx;have CA:(bs.take x).length=x:=by rw[rP];omega
    have Htl:=ah CA;clear hB9 hN9 mO JI Xx Gt CA hC Xj;generalize JH:(bs.getD x .zero).nodes.length=NL at *
    go_wp2_with (at_builtin;refine zkt (W0:=w8.setCell ⟨wr.heap.size,2,za⟩ (zc (zb ⟨b8,0,za⟩) NL c8)) rfl (.tmp 151) (.tmp 153) rfl (w2.heap.size+1) bv (zc (zb ⟨b8,0,za⟩) NL c8) (bs.take x) (bs.getD x .zero) (by rw[zA3,zA5]) rfl HB9.out w8.heap.size (by simp) rfl HN9.out (by rw[Htl.out];omega) (by simp;omega) ?_;intro g9 oY w9 Wv eK at9;rw[Htl.out]at Wv ⊢;have RD:w9.heap[w2.heap.size]?=zb (zf #[bv,zd .i64 (g:Int)] 101 (0,0)):=(by rw[eK.block _ (by simp;omega) (λe=>by have:=(zxK.out _ e.symm).1;omega),Below.heap_setCell _ _ _ _ (by show w2.heap.size≠wr.heap.size;omega)];exact HP8.out);have y0:=(jK RD).1;have y1:=(jK RD).2.2.1)
    have zyT:w9.heap[gp]?=w3.heap[gp]?:=by
     rw[eK.block gp (by simp;omega) (λe=>HT.out.2.2.1 e.symm),Below.heap_setCell _ _ _ _ (by show gp≠wr.heap.size;omega),gQ.block gp (by omega),ij.block gp (by omega)];exact HT.out.2.2.2
    have hs9:w8.heap.size<=w9.heap.size:=by have:=eK.size;simpa using this
    have zBh:zg w2.heap.size w2 w9:=(zBg.setCell (p:=⟨wr.heap.size,2,za⟩) (by show w2.heap.size<=wr.heap.size;omega) _).grown eK (by simp;omega) (λk hk=>by have:=(zxK.out k hk).1;omega);have zze:(Value.slice (zb ⟨g9,0,za⟩) (x+1) oY).ownBlock≠zb gp:=λe=>by
     have e2:g9=gp:=by simpa [Value.ownBlock]using e
     subst e2;rcases at9 with h|h
     ·exact HT.out.2.2.1 h
     ·simp at h;omega
    have zzz:bs.take (x+1)=bs.take x++[bs.getD x .zero]:=by
     rw[oh EP,bJ,bE EP];rfl
    have HF:Hid ((w9.setCell ⟨w2.heap.size,0,za⟩ (zc (zb ⟨g9,0,za⟩) (x+1) oY)).heap[w2.heap.size]?=zb (zf #[zc (zb ⟨g9,0,za⟩) (x+1) oY,zd .i64 (g:Int)] 101 (0,0))/\oV (w2.heap.size+1) (w9.setCell ⟨w2.heap.size,0,za⟩ (zc (zb ⟨g9,0,za⟩) (x+1) oY)) (zc (zb ⟨g9,0,za⟩) (x+1) oY) (bs.take (x+1))/\(Value.slice (zb ⟨g9,0,za⟩) (x+1) oY).ownBlock≠zb gp/\(w9.setCell ⟨w2.heap.size,0,za⟩ (zc (zb ⟨g9,0,za⟩) (x+1) oY)).heap[gp]?=w3.heap[gp]?):=by
     refine⟨mq RD 0 _,?_,zze,?_⟩
     ·rw[zzz];exact Wv.keep (by simp) λb h1 _=>Below.heap_setCell _ _ _ _ (by show b≠w2.heap.size;omega)
     ·rw[Below.heap_setCell _ _ _ _ (by show gp≠w2.heap.size;omega)];exact zyT
    have Eo:zg w2.heap.size w2 (w9.setCell ⟨w2.heap.size,0,za⟩ (zc (zb ⟨g9,0,za⟩) (x+1) oY)):=zBh.setCell (p:=⟨w2.heap.size,0,za⟩) (aq _) _;have hsF:w3.heap.size<=(w9.setCell ⟨w2.heap.size,0,za⟩ (zc (zb ⟨g9,0,za⟩) (x+1) oY)).heap.size:=by simp;omega
    clear Wv eK at9 RD zyT zze zzz HB9 HN9 pz0 pz1 pf0 pf1 qz0 qz1 qz2 qf2;go_wp2
    go_roundw
    case rel=>exact⟨x+1,_,by omega,by go_num,Eo,hsF,HF⟩
    case measure=>simp[intOf];omega
end Go.Proofs.YtfajjdgkiilhfaaGreatDoor
