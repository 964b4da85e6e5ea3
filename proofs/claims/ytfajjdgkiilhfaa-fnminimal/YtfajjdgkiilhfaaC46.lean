import Derived.Test.YtfajjdgkiilhfaaC45
import Derived.Deep.Cut
import Derived.Deep.CutRange
namespace Go.Proofs.Ytfajjdgkiilhfaa
open Proofs.Try
open Option renaming none->za,some->zh
open Value renaming slice->zi,int->zn
open Obj renaming cells->zp
open RowKit renaming Below->zw
set_option maxHeartbeats 8000000
set_option maxRecDepth 100000
open Go.RowKit
attribute [local go_sem ↓] wp_at_zero wp_at_succ
theorem zot{p:Prop} [Decidable p] {b:Bool}(h:p↔b=true):decide p=b:=by
 by_cases hp:p
 ·rw[h.1 hp];exact decide_eq_true hp
 ·cases hb:b with
  |false=>exact decide_eq_false hp
  |true=>exact absurd (h.2 hb) hp
def zzc(w:World)(bs:List cX)(g:Nat)(e:Ending)(w':World):Prop:=(2000<gE bs->Bz w .zero 10 0 e w')/\(¬2000<gE bs->Bz w ⟨bs,(g:Int)⟩ 0 0 e w')
theorem zeD(t:ByteArray)(w:World)(hs:t.size<=2000){l:List Tok}{bs:List cX}{g:Nat}(hl:kL t.data.toList 0 []=(l,0,0))(cj:∀j,j<l.length->lu l j=0)(ho:¬dO (dn l l.length))(hd:bA l l.length=0)(hR:Rl 0 l bs g):
  Calls prog 48 #[.string t] w (zzc w bs g):=by
 obtain⟨ts,KF,O7,I5,aG,cQ,tW,eY⟩:=ztF hR;have h0:0<l.length:=by omega
 have HBj:=ah KF;have Wl:=ah O7;have Wi:=ah I5;have VM:=ah tW;have fK:=ah eY;have HR:=ah hR;have zwP:bs.length<=l.length:=cQ;clear KF O7 I5 tW eY hR cQ;have h1:¬(2000:Int)<(t.size:Int):=by omega
 have hk:=Gh t.data.toList t.data.toList.length 0 [] (by omega) (by simp) (by simp) (by simp);rw[hl]at hk;obtain⟨cI,cY,_⟩:=hk;have hsz:t.data.toList.length=t.size:=jf;have SK:l.length<=t.data.toList.length:=cY;have cI:∀x∈l,uO x/\x.kind<7:=cI;have cY:l.length<=2000:=by omega
 clear hsz
 go_enter func48,ntmps48
 go_wp2_with fail
 obtain⟨W1,bk⟩:∃W1,W1=w.alloc (zp #[zi za 0 0,zn .i64 0] 89):=⟨_,rfl⟩;have hP:W1.heap[w.heap.size]?=zh (zp #[zi za 0 0,zn .i64 0] 89 (0,0)):=by rw[bk];exact aU _ _
 have dh:zw w.heap.size w W1:=by rw[bk];exact aC
 rw[<-bk];clear bk;refine(PV t W1 (by omega)).mono ?_;rw[hl];rintro e w2 ⟨aL,sv,q,rfl,hS⟩;have eJ:=aY hP aL;have bN:=bi dh dh.size aL;have hS:mH W1.heap.size w2 sv l q:=hS;have HS:=ah hS;have tH:=ah cI;have Dc:=hP;clear hP hS cI;have hG:=HS.out.to tH.out h0;obtain⟨G,cc,rfl,hV,nK,dN⟩:=hG;have E7:w.heap.size≠G:=by have h1:W1.heap.size<=G:=(dL HS.out.row rfl).1;have:=az Dc;omega
 have HV:=ah hV;obtain⟨n,hn⟩:∃n,n=l.length:=⟨_,rfl⟩;have fc:n<=2000:=by omega
 have Dv:0<n:=by omega
 have nL:(n:Int)<=(cc:Int):=by omega
 have Am:(cc:Int)<=9223372036854775807:=by omega
 have HN:=ah hn;rw[<-hn];obtain⟨r0,r1,f0,f1⟩:=jZ eJ;clear hV hn cY;go_wp2
 go_loop [35] (λi=>∃j:Nat,j<=n/\i=zn .i64 (j:Int)) (λi=>n-(intOf i).toNat)
 case atStart=>exact⟨0,by omega,rfl⟩
 case round=>
  obtain⟨j,hj,rfl⟩:=hrel
  by_cases hlt:j<n
  ·have rq:(j:Int)<(n:Int):=by omega
   have hC:=TV (c:=cc) w2 HV.out (k:=j) (by have:=HN.out;omega) (by have:=HN.out;omega);rw[<-HN.out,cj j (by have:=HN.out;omega)]at hC
   go_wp2_with fail
   refine hC.mono ?_;rintro e w3 ⟨rfl,hw⟩;rw[hw];clear hw w3 hC;go_wp2
   go_round
   case rel=>exact⟨j+1,by omega,by go_num⟩
   case measure=>simp[intOf];omega
  have rq:j=n:=by omega
  subst rq;have tO:Gl l:=λk hk=>HV.out.qE k hk
  have mM:=Uk tO (k:=l.length) (ax _);have hC:=Ty (c:=cc) w2 HV.out (k:=l.length) (ck:=(j:Int)-1) (ax _) (by have:=HN.out;omega);rw[<-HN.out]at hC mM;have BQ:dn l j≠7:=by unfold dn;rw[ab (by omega)];have:=tO (j-1) (by have:=HN.out;omega);omega
  have p1:(pB (dn l j)==40)=decide (dn l j=1):=Bb mM 1 (by omega);have p3:(pB (dn l j)==124)=decide (dn l j=3):=Bb mM 3 (by omega);have p5:(pB (dn l j)==94)=decide (dn l j=5):=Bb mM 5 (by omega);have P1:=ah p1;have P3:=ah p3;have P5:=ah p5;rw[<-HN.out]at ho;have HO:=ah ho;have QN:=ah BQ;have Dp:((j:Int)==0)=false:=by simp;omega
  clear p1 p3 p5 ho BQ tO mM hj hlt;generalize dn l j=PK at *;generalize pB PK=PB at *
  go_wp2_with fail
  refine hC.mono ?_;rintro e w3 ⟨rfl,hw⟩;rw[hw];clear hw w3 hC;have q1:(PB==40)=false:=by rw[P1.out];have:=HO.out;simp[dO]at this;simp;omega
  have q3:(PB==124)=false:=by rw[P3.out];have:=HO.out;simp[dO]at this;simp;omega
  have q5:(PB==94)=false:=by rw[P5.out];have:=HO.out;simp[dO]at this;simp;omega
  have hD:=L9 (c:=cc) w2 HV.out (k:=l.length) (ck:=(j:Int)) (ax _) (by have:=HN.out;omega) (by have:=HN.out;omega);rw[<-HN.out]at hD;rw[<-HN.out]at hd;rw[hd]at hD;clear hl hd cj
  go_wp2_with fail
  refine hD.mono ?_;rintro e w3 ⟨rfl,hw⟩;rw[hw];clear hw w3 hD;have hsb:=bN.size;obtain⟨B2,sj⟩:∃B2,B2=w2.heap.size:=⟨_,rfl⟩;go_wp2
  go_loopw [105] (λi wr=>∃k:Nat,k<=j/\i=zn .i64 (k:Int)/\zw w2.heap.size w2 wr/\Hid (wr.heap[w2.heap.size]?=zh (zp #[zi za 0 0,zn .i64 ((cZ l k:Nat):Int)] 89 (0,0)))) (λi _=>j-(intOf i).toNat)
  case atStart=>exact⟨0,by omega,rfl,aC,aU _ _⟩
  case round=>
   obtain⟨k,hk,rfl,dB,HB⟩:=hrel;have S8:=dB.size;have nO:=az HB.out
   by_cases hlt:k<j
   ·have YO:(k:Int)<(j:Int):=by omega
    have cY:k<l.length:=by have:=HN.out;omega
    have De:=HV.out.below dB;have hnk:=Ux l k;obtain⟨sr,sn,sc,jr⟩:∃r n c,DK (l.getD k jb) (q k)=.slice r n c:=by unfold DK;split<;>exact⟨_,_,_,rfl⟩
    have k0:=De.DG cY;have k1:=De.Z6 cY;have k2:=De.zyp cY;have k3:=De.Tj cY;have k4:=De.zyj cY;rw[jr]at k2;rw[jB]at k0 k1 k2 k3 k4;have e1:(kB (aZ l k)==40)=decide (aZ l k=1):=Ef (HV.out.qE k cY) 1 (by omega);have pV:cZ l (k+1)=cZ l k+(if aZ l k=1 then 1 else 0):=rfl;have HNu:=ah pV;clear De jr pV;generalize hKA:aZ l k=KA at *;generalize kB KA=KB at *;generalize ((l.getD k jb).pos:Int)=PP at *;generalize mS 0 l k=MM at *;generalize (l.getD k jb).mx=MX at *;generalize hNK:cZ l k=NK at *;have lP:wr.heap.size≠w2.heap.size:=by omega
    have b1:=(jZ HB.out).2.1;have g1:=(jZ HB.out).2.2.2;have kG:∀C:Array Value,(wr.alloc (zp C 135)).heap[w2.heap.size]?=zh (zp #[zi za 0 0,zn .i64 (NK:Int)] 89 (0,0)):=λC=>JA HB.out
    by_cases cK:KA=1
    ·have nG:(KB==40)=true:=by rw[e1];simpa using cK
     have HX:Hid (((wr.setCell ⟨w2.heap.size,1,za⟩ (zn .i64 ((NK:Int)+1))).alloc (zp #[.int .u8 KB,zn .i64 PP,.slice sr sn sc,zn .i64 MM,zn .i64 MX] 135)).heap[w2.heap.size]?=zh (zp #[zi za 0 0,zn .i64 ((cZ l (k+1):Nat):Int)] 89 (0,0))):=by
      show _=_;rw[JA (mA HB.out 1 _),HNu.out,ae cK]
      rfl
     clear e1 cK kG;go_wp2
     go_roundw
     case rel=>exact⟨k+1,by omega,by go_num,(dB.setCell (p:=⟨w2.heap.size,1,za⟩) (ax _) _).alloc (by simp;omega) _,HX⟩
     case measure=>simp[intOf];omega
    ·have nG:(KB==40)=false:=by rw[e1];simpa using cK
     have HX:Hid ((wr.alloc (zp #[.int .u8 KB,zn .i64 PP,.slice sr sn sc,zn .i64 MM,zn .i64 MX] 135)).heap[w2.heap.size]?=zh (zp #[zi za 0 0,zn .i64 ((cZ l (k+1):Nat):Int)] 89 (0,0))):=by
      show _=_;rw[kG,HNu.out,ab cK]
      rfl
     clear e1 cK kG;go_wp2
     go_roundw
     case rel=>exact⟨k+1,by omega,by go_num,dB.alloc S8 _,HX⟩
     case measure=>simp[intOf];omega
   have YO:k=j:=by omega
   subst YO;have qx:=bN.size;have iU:zw w.heap.size w wr:=bi bN bN.size dB;have YD:((cZ l k:Nat):Int)=(g:Int):=by rw[HN.out,VM.out,jB]
   rw[YD]at HB;have lL:=zoY HBj.out Wi.out;have hS:=zii (c:=cc) wr (HV.out.below dB) (by have:=HN.out;omega) (by have:=HN.out;omega) (by omega) lL;have OU:=zkF HBj.out λt ht=>⟨(Wi.out t ht).1,(Wi.out t ht).2.1⟩
   rw[<-HN.out]at hS;have VX:=ah OU;obtain⟨R0,XL⟩:∃R0,R0=wr:=⟨_,rfl⟩;subst XL;clear YD lL OU hlt hk
   go_wp2_with fail
   refine hS.mono ?_;rintro e w3 ⟨pv,rfl,Ae,cN⟩;rw[VX.out]at Ae;have dz:(ja 0 ts).length=bs.length:=by rw[Uj];exact Wl.out
   obtain⟨M,hM⟩:∃M,M=bs.length:=⟨_,rfl⟩;rw[dz,<-hM]at Ae;have KO:0<M:=by omega
   have Fa:M<=2000:=by have:=HN.out;omega
   obtain⟨gp,cp,Zf,zAp,zAq⟩:=Ae.form KO;subst Zf;have Om:∀t,t<M->w3.cell? ⟨gp,t,za⟩=zh (AV G 0 cc ((ja 0 ts).getD t (0,0))):=by
    intro t ht;rw[Ae.cellAt t (by omega),vE,bI,bE (by omega)]
    rfl
   have VD:=ah Om;have rX:=ah hM;have zC0:=az HB.out;have CD:=ah (aY HB.out cN);have zz1:=bi dB dB.size cN;clear Om Ae dz hM hS HB;go_wp2
   go_loopw [120] (λi wz=>∃(x:Nat) (bv:Value),x<=M/\i=zn .i64 (x:Int)/\zw w2.heap.size w2 wz/\w3.heap.size<=wz.heap.size/\Hid (wz.heap[w2.heap.size]?=zh (zp #[bv,zn .i64 (g:Int)] 89 (0,0))/\oO (w2.heap.size+1) wz bv (bs.take x)/\bv.ownBlock≠zh gp/\wz.heap[gp]?=w3.heap[gp]?)) (λi _=>M-(intOf i).toNat)
   case atStart=>exact⟨0,zi za 0 0,by omega,rfl,zz1,ax _,CD.out,oO.nil _ _,by simp[Value.ownBlock],rfl⟩
   case round=>
    obtain⟨x,bv,hx,rfl,dS,hwz,HT⟩:=hrel;have hsz:=dS.size;have Su:=bi bN bN.size dS;have zC1:=az HT.out.1
    by_cases hxM:x<M
    case neg=>
     have I8:x=M:=by omega
     subst I8;have R4:oO (w2.heap.size+1) wr bv bs:=by
      have:=HT.out.2.1;rw[rX.out,th]at this;exact this
     have zz7:∃gb cb,bv=zi (zh ⟨gb,0,za⟩) bs.length cb:=by
      obtain⟨nv,ho,_⟩:=R4;obtain⟨gb,cb,e,_⟩:=ho.form (by have:=rX.out;omega);exact⟨gb,cb,e⟩
     obtain⟨gb,cb,hbv⟩:=zz7;subst hbv;have zx3:∀x∈l,uO x:=λx hx=>(tH.out x hx).1
     obtain⟨zwu,zwD⟩:=zrW HR.out zx3 (by have:=HN.out;omega);have hC:=PH (lo:=w2.heap.size) (g:Int) _ bs wr (R4.at (by omega)) zwD zwu;have HBO:=ah R4;obtain⟨z0,z1,-,-⟩:=jZ HT.out.1;have hPr:=ah eJ;generalize hBL:bs.length=BL at *;clear R4 zwD zwu zx3 r0 r1 f0 f1
     go_wp2_with fail
     refine hC.mono ?_;rintro e w4 ⟨rfl,bZ⟩;obtain⟨y0,y1,-,-⟩:=jZ (aY HT.out.1 bZ);have zwK:=bi dS hsz bZ;obtain⟨r0,r1,f0,f1⟩:=jZ (aY hPr.out zwK);have zwT:=bi bN bN.size zwK;clear hC;have zC9:w.heap.size<w2.heap.size:=az hPr.out
     by_cases fg:2000<gE bs
     ·go_wp2;refine bw (v:=.tuple #[.agg #[zi za 0 0,zn .i64 0],zn .i64 10,zn .i64 0]) (by simp[results,results48,go_sem,r0,r1]) rfl ?_;refine⟨λ_=>?_,λh=>absurd fg h⟩;exact .bad ((zwT.setCell (ax _) _).setCell (ax _) _) rfl rfl
     ·go_wp2;refine bw (v:=.tuple #[.agg #[zi (zh ⟨gb,0,za⟩) BL cb,zn .i64 (g:Int)],zn .i64 0,zn .i64 0]) (by simp[results,results48,go_sem,r0,r1]) rfl ?_;refine⟨λh=>absurd h (by omega),λ_=>?_⟩;refine⟨(zwT.setCell (ax _) _).setCell (ax _) _,_,rfl,?_⟩;have h9:oO (w2.heap.size+1) ((w4.setCell ⟨w.heap.size,0,za⟩ (zi (zh ⟨gb,0,za⟩) BL cb)).setCell ⟨w.heap.size,1,za⟩ (zn .i64 (g:Int))) (zi (zh ⟨gb,0,za⟩) BL cb) bs:=by
       refine oO.keep HBO.out (by have:=bZ.size;simp;omega) λb h1 h2=>?_
       rw[Below.heap_setCell _ _ _ _ (by simp;omega),Below.heap_setCell _ _ _ _ (by simp;omega),bZ.block b h2]
      exact h9.at (by omega)
    have hxI:(x:Int)<(M:Int):=by omega
    have FQ:x<bs.length:=by have:=rX.out;omega
    obtain⟨a,tk,c2,hlt,pX,g2,Xo⟩:=fK.out x FQ;obtain⟨ti,Ii,zw5⟩:=zr7 Xo;have c5:wr.cell? ⟨gp,x,za⟩=zh (zi (zh ⟨G,a.length*5,za⟩) tk.length (cc-a.length)):=by
     have c5:=VD.out x hxM;rw[pX]at c5;rw[World.cell?_of_block (w:=w3) HT.out.2.2.2,c5];unfold AV;rw[lW,jB]
    have Sj:∀W,zw w2.heap.size w2 W->gK W G (a.length*5) (cZ a a.length) tk (λi=>q (a.length+i)):=by
     intro W hW;have h2:=HV.out.below hW;rw[hlt]at h2;have h3:=h2.sub;rw[jB,jB]at h3;exact h3
    have R3:a.length+tk.length<=k:=by have:=HN.out;have h9:=congrArg List.length hlt;simp at h9;omega
    have Zv:0<tk.length:=qh.2 (zli Xo).2.2.1;obtain⟨nT,nsT,R8,_⟩:=id Ii;have zxZ:0<ti.length:=qh.2 (xG R8);obtain⟨d,sQ,Ss,Li⟩:∃(d:Nat) (sQ:List Tok),(((bs.getD x .zero).bol=true/\d=1/\∃y:Tok,y.kind=5/\tk=y::sQ)\/((bs.getD x .zero).bol=false/\d=0/\tk=sQ))/\(((bs.getD x .zero).eol=true/\∃y:Tok,y.kind=6/\sQ=ti++[y])\/((bs.getD x .zero).eol=false/\sQ=ti)):=by
     rcases zw5 with ⟨h1,h2,h3⟩|⟨y,hy,h1,h2,h3⟩|⟨y,hy,h1,h2,h3⟩|⟨y,z,hy,hz,h1,h2,h3⟩
     ·exact⟨0,ti,.inr ⟨h1,rfl,h3⟩,.inr ⟨h2,rfl⟩⟩
     ·exact⟨1,ti,.inl ⟨h1,rfl,y,hy,h3⟩,.inr ⟨h2,rfl⟩⟩
     ·exact⟨0,ti++[y],.inr ⟨h1,rfl,h3⟩,.inl ⟨h2,y,hy,rfl⟩⟩
     ·exact⟨1,ti++[z],.inl ⟨h1,rfl,y,hy,h3⟩,.inl ⟨h2,z,hz,rfl⟩⟩
    have Ta:∃pre:List Tok,tk=pre++(sQ++[])/\pre.length=d/\cZ pre pre.length=0:=by
     rcases Ss with ⟨_,h2,y,hy,h3⟩|⟨_,h2,h3⟩
     ·exact⟨[y],by rw[h3];simp,by rw[h2];rfl,by rw[show [y].length=1 from rfl,A5,ab (by omega)]⟩
     ·exact⟨[],by rw[h3];simp,by rw[h2];rfl,rfl⟩
    obtain⟨pre,Zd,dz,S4⟩:=Ta;have hL2:tk.length=d+sQ.length:=by rw[Zd];simp;omega
    have XW:∀W,zw w2.heap.size w2 W->gK W G (a.length*5+d*5) (cZ a a.length) sQ (λi=>q (a.length+(d+i))):=by
     intro W hW;have h2:=Sj W hW;rw[Zd]at h2;have h3:=h2.sub;rw[S4,dz,xJ]at h3;exact h3
    have zx0:ti.length<=sQ.length/\sQ.length<=ti.length+1:=by
     rcases Li with ⟨_,y,hy,h3⟩|⟨_,h3⟩<;>rw[h3]<;>simp
    have hVt:∀W,zw w2.heap.size w2 W->gK W G (a.length*5+d*5) (cZ a a.length) ti (λi=>q (a.length+(d+i))):=by
     intro W hW;have h2:=XW W hW;rcases Li with ⟨_,y,hy,h3⟩|⟨_,h3⟩
     ·rw[h3]at h2;have h4:=gK.sub (a:=[]) (b:=ti) (c:=[y]) h2
      simpa [cZ]using h4
     ·rw[h3]at h2;exact h2
    have kj:aZ tk 0=5↔(bs.getD x .zero).bol=true:=by
     rcases Ss with ⟨h1,h2,y,hy,h3⟩|⟨h1,h2,h3⟩
     ·rw[h1,h3];exact⟨λ_=>rfl,λ_=>hy⟩
     ·rw[h1,h3];constructor
      ·intro h5;have h6:aZ sQ 0=aZ ti 0:=by
        rcases Li with ⟨_,z,_,h7⟩|⟨_,h7⟩<;>rw[h7]
        rw[xt _ zxZ]
       have:=zlz R8;omega
      ·intro h;cases h
    have OI:aZ sQ (sQ.length-1)=6↔(bs.getD x .zero).eol=true:=by
     rcases Li with ⟨h1,y,hy,h3⟩|⟨h1,h3⟩
     ·rw[h1,h3];exact⟨λ_=>rfl,λ_=>by rw[a6,show [y].length=1 from rfl,Ek];exact(Qe ti y).trans hy⟩
     ·rw[h1,h3];constructor
      ·intro h5;have:=zqG R8 (ti.getD (ti.length-1) jb) (by rw[bI,bE (by omega)];exact gy _);unfold aZ at h5;omega
      ·intro h;cases h
    have cO:zw w2.heap.size w2 (wr.alloc (zp #[.bool false,.bool false,zi za 0 0] 107)):=dS.alloc hsz _;have k0:=(Sj _ cO).DG Zv;rw[Nat.zero_mul,xJ]at k0;have e1:(kB (aZ tk 0)==94)=(bs.getD x .zero).bol:=(Ef ((Sj _ cO).qE 0 Zv) 5 (by omega)).trans (zot kj);generalize zzL:(bs.getD x .zero).bol=JV at *;generalize zzO:(bs.getD x .zero).eol=JW at *;generalize kB (aZ tk 0)=KB0 at *;have Vv:=ah XW;have HVt:=ah hVt;have Hke:=ah OI;have jD:=ah hL2;have Rg:=ah zx0;have EE:=ah hlt;have zyx:=ah Ii;obtain⟨L1,XE⟩:∃L1,L1=tk.length:=⟨_,rfl⟩;obtain⟨L2,Sa⟩:∃L2,L2=sQ.length:=⟨_,rfl⟩;have eZ:(JV=true/\d=1)\/(JV=false/\d=0):=by
     rcases Ss with ⟨h1,h2,_⟩|⟨h1,h2,_⟩
     ·exact .inl ⟨h1,h2⟩
     ·exact .inr ⟨h1,h2⟩
    have Aq:(JW=true/\L2=ti.length+1)\/(JW=false/\L2=ti.length):=by
     rcases Li with ⟨h1,y,hy,h2⟩|⟨h1,h2⟩
     ·exact .inl ⟨h1,by rw[Sa,h2];simp⟩
     ·exact .inr ⟨h1,by rw[Sa,h2]⟩
    have Bs:=ah eZ;have Hde:=ah Aq;have Sc:L1=d+L2:=by omega
    have zBW:L1<=2000:=by omega
    have zzQ:L2<=L1:=by omega
    have M1:=ah Sc;have zBV:0<L1:=by omega
    have zBX:0<L2:=by omega
    have hcA:a.length+L1<=cc:=by omega
    rw[<-XE]at c5;obtain⟨O1,Db⟩:∃O1,O1=a.length*5:=⟨_,rfl⟩;obtain⟨C1,hC1⟩:∃C1,C1=cc-a.length:=⟨_,rfl⟩;rw[<-Db,<-hC1]at c5;rw[<-Db]at k0 Vv HVt;have zBP:L1<=C1:=by omega
    have zBQ:C1<=9223372036854775807:=by omega
    have MZ:=ah Sa;clear Sj XW hVt OI kj hL2 zx0 hlt Ii zw5 Ss Li Zd dz S4 pX Xo R8 XE Sa eZ Aq Db hC1 R3 Zv hcA zxZ Sc;have Sb:(0:Int)<(L1:Int):=by omega
    go_upto_region 32 with fail
    obtain⟨W5,gL⟩:∃W5,W5=wr.alloc (zp #[.bool false,.bool false,zi za 0 0] 107):=⟨_,rfl⟩;have KV:W5.heap[wr.heap.size]?=zh (zp #[.bool false,.bool false,zi za 0 0] 107 (0,0)):=by rw[gL];exact aU _ _
    have hbQ:zw wr.heap.size wr W5:=by rw[gL];exact aC
    rw[<-gL]at k0 ⊢;clear gL cO
    go_cut [129] from 121 to 128 (λv wx=>v=.bool JV/\wx=W5)
    case first=>
     go_wp2
     go_meet
     case rel=>exact⟨rfl,rfl⟩
    obtain⟨rfl,DC⟩:=hcut;subst DC
    rename_i Ip
    refine Ip _ _ ?_;clear k0 e1 c5
    go_cut [16] from 121 to 132 (λv wx=>v=zi (zh ⟨G,O1+d*5,za⟩) L2 (C1-d)/\Hid (wx.heap[wr.heap.size]?=zh (zp #[.bool JV,.bool false,zi za 0 0] 107 (0,0)))/\zw wr.heap.size wr wx)
    case first=>
     rcases Bs.out with ⟨hB,hd⟩|⟨hB,hd⟩
     ·subst hB hd;have i1:(1:Int)<=(L1:Int):=by omega
      have i2:(1:Int)<=(C1:Int):=by omega
      have i3:(L1:Int)<=(C1:Int):=by omega
      have i4:¬C1-1=0:=by have:=M1.out;omega
      have i5:L1-1=L2:=by have:=M1.out;omega
      have q0:=kr KV 0;have q1:wc.frozen? ⟨wr.heap.size,0,za⟩=false:=aR _ _ _ _ _ KV;have HQ5:=ah KV;clear KV;go_wp2
      go_meet
      case rel=>exact⟨by rw[Nat.one_mul],mA HQ5.out 0 _,hbQ.setCell (ax _) _⟩
     ·subst hB hd;have hLe:L1=L2:=by have:=M1.out;omega
      clear M1 zzQ;subst hLe;go_wp2
      go_meet
      case rel=>exact⟨rfl,KV,hbQ⟩
    obtain⟨wI,QO,gM⟩:=hcut;subst wI;have zwL:=bi dS hsz gM;have k0:=(Vv.out _ zwL).DG (k:=L2-1) (by have:=MZ.out;omega);have YN:=Hke.out;rw[<-MZ.out]at YN;have e1:(kB (aZ sQ (L2-1))==36)=JW:=(Ef ((Vv.out _ zwL).qE (L2-1) (by have:=MZ.out;omega)) 6 (by omega)).trans (zot YN);generalize kB (aZ sQ (L2-1))=KB1 at *;generalize XJ:O1+d*5=O2 at *;generalize zBT:C1-d=C2 at *;have zBR:L2<=C2:=by have:=M1.out;omega
    have zBS:C2<=9223372036854775807:=by omega
    have i1:((L2:Int)-1).toNat=L2-1:=by omega
    have i2:(0:Int)<=(L2:Int)-1:=by omega
    have i3:(L2:Int)-1<(L2:Int):=by omega
    have i4:(L2:Int)-1<=(C2:Int):=by omega
    have i5:(L2:Int)<=2000:=by omega
    clear YN;have zCF:L2<=2000:=by omega
    go_upto_region 35 with fail
    go_cut [140] from 121 to 139 (λv wx=>v=.bool JW/\wx=wc)
    case first=>
     go_wp2
     go_meet
     case rel=>exact⟨rfl,rfl⟩
    obtain⟨rfl,DC⟩:=hcut;subst DC
    rename_i E8
    refine E8 _ _ ?_;clear k0 e1
    go_cut [16] from 121 to 146 (λv wx=>v=zi (zh ⟨G,O2,za⟩) ti.length C2/\Hid (wx.heap[wr.heap.size]?=zh (zp #[.bool JV,.bool JW,zi za 0 0] 107 (0,0)))/\zw wr.heap.size wr wx)
    case first=>
     have q0:=kr QO.out 1;have q1:wc.frozen? ⟨wr.heap.size,1,za⟩=false:=aR _ _ _ _ _ QO.out;rcases Hde.out with ⟨hE,Aq⟩|⟨hE,Aq⟩
     ·have LC:ti.length=L2-1:=by omega
      have V9:=ah LC;clear LC Aq Rg;subst hE;go_wp2
      go_meet
      case rel=>exact⟨by rw[V9.out],mA QO.out 1 _,gM.setCell (ax _) _⟩
     ·have V9:=ah Aq;clear Aq Rg;subst hE;go_wp2
      go_meet
      case rel=>exact⟨by rw[V9.out],QO,gM⟩
    obtain⟨wI,HQ7,iC⟩:=hcut;subst wI;have Yg:=bi dS hsz iC;have hC:=zqW (c:=C2) _ zyx.out (by have h9:=HVt.out _ Yg;rw[jB];exact h9) (by have:=Rg.out;have:=MZ.out;omega) (by have:=Rg.out;have:=MZ.out;omega) (by omega);have Zk:=iC.size;have hq7:=az HQ7.out;generalize ti.length=TL at *
    go_wp2_with fail
    refine hC.mono ?_;rintro e w8 ⟨v8,rfl,Ir,fU⟩;obtain⟨b8,c8,s8,hv8,-⟩:=id Ir;subst hv8;have S7:=fU.size;have KW:=aY HQ7.out fU;have Iv:=bi Yg Yg.size fU;have mM:w8.heap[w2.heap.size]?=zh (zp #[bv,zn .i64 (g:Int)] 89 (0,0)):=by
     rw[fU.block _ (by omega),iC.block _ (by omega)];exact HT.out.1
    obtain⟨pz0,pz1,pf0,pf1⟩:=jZ mM;obtain⟨qz0,qz1,qz2⟩:w8.cell? ⟨wr.heap.size,0,za⟩=zh (.bool JV)/\w8.cell? ⟨wr.heap.size,1,za⟩=zh (.bool JW)/\w8.cell? ⟨wr.heap.size,2,za⟩=zh (zi za 0 0):=⟨kr KW 0,kr KW 1,kr KW 2⟩;have qf2:w8.frozen? ⟨wr.heap.size,2,za⟩=false:=aR _ _ _ _ _ KW;have Ym:∀b,bv.ownBlock=zh b->w2.heap.size+1<=b/\b<wr.heap.size:=λb e=>by
     obtain⟨nv,ho,_⟩:=HT.out.2.1;exact dL ho e
    have zCW:w2.heap.size≠wr.heap.size:=by omega
    have XX:(w8.setCell ⟨wr.heap.size,2,za⟩ (zi (zh ⟨b8,0,za⟩) (bs.getD x .zero).nodes.length c8)).heap.size=w8.heap.size:=by simp
    have hB9:oO (w2.heap.size+1) (w8.setCell ⟨wr.heap.size,2,za⟩ (zi (zh ⟨b8,0,za⟩) (bs.getD x .zero).nodes.length c8)) bv (bs.take x):=by
     refine oO.keep HT.out.2.1 (by rw[XX];omega) λb h1 h2=>?_
     rw[Below.heap_setCell _ _ _ _ (by show b≠wr.heap.size;omega),fU.block b (by omega),iC.block b h2]
    have hN9:fT (λb=>w2.heap.size+1<=b/\bv.ownBlock≠zh b) (w8.setCell ⟨wr.heap.size,2,za⟩ (zi (zh ⟨b8,0,za⟩) (bs.getD x .zero).nodes.length c8)) (zi (zh ⟨b8,0,za⟩) (bs.getD x .zero).nodes.length c8) (bs.getD x .zero).nodes:=by
     refine(Ir.keep (W':=w8.setCell _ _) (by rw[XX];exact ax _) λb h1 h2=>Below.heap_setCell _ _ _ _ (by show b≠wr.heap.size;omega)).mono λb h1 _=>⟨by omega,λe=>by have:=(Ym b e).2;omega⟩
    have QB:=ah hB9;have HN9:=ah hN9;have HP8:=ah mM;have HQ8:=ah KW;have zvS:=ah Ym;have yO:(bs.take x).length=x:=by rw[nr];omega
    have Htl:=ah yO;clear hB9 hN9 mM KW Ym Ir yO hC XX;generalize KQ:(bs.getD x .zero).nodes.length=NL at *
    go_wp2_with (at_builtin;refine zjE (W0:=w8.setCell ⟨wr.heap.size,2,za⟩ (zi (zh ⟨b8,0,za⟩) NL c8)) rfl (.tmp 151) (.tmp 153) rfl (w2.heap.size+1) bv (zi (zh ⟨b8,0,za⟩) NL c8) (bs.take x) (bs.getD x .zero) (by rw[zzL,zzO]) rfl QB.out w8.heap.size (by simp) rfl HN9.out (by rw[Htl.out];omega) (by simp;omega) ?_;intro g9 oX w9 Xl kE at9;rw[Htl.out]at Xl ⊢;have SC:w9.heap[w2.heap.size]?=zh (zp #[bv,zn .i64 (g:Int)] 89 (0,0)):=(by rw[kE.block _ (by simp;omega) (λe=>by have:=(zvS.out _ e.symm).1;omega),Below.heap_setCell _ _ _ _ (by show w2.heap.size≠wr.heap.size;omega)];exact HP8.out);have y0:=(jZ SC).1;have y1:=(jZ SC).2.2.1)
    have zxc:w9.heap[gp]?=w3.heap[gp]?:=by
     rw[kE.block gp (by simp;omega) (λe=>HT.out.2.2.1 e.symm),Below.heap_setCell _ _ _ _ (by show gp≠wr.heap.size;omega),fU.block gp (by omega),iC.block gp (by omega)];exact HT.out.2.2.2
    have Zl:w8.heap.size<=w9.heap.size:=by have:=kE.size;simpa using this
    have zz2:zw w2.heap.size w2 w9:=(Iv.setCell (p:=⟨wr.heap.size,2,za⟩) (by show w2.heap.size<=wr.heap.size;omega) _).grown kE (by simp;omega) (λk hk=>by have:=(zvS.out k hk).1;omega);have zxD:(Value.slice (zh ⟨g9,0,za⟩) (x+1) oX).ownBlock≠zh gp:=λe=>by
     have e2:g9=gp:=by simpa [Value.ownBlock]using e
     subst e2;rcases at9 with h|h
     ·exact HT.out.2.2.1 h
     ·simp at h;omega
    have zx1:bs.take (x+1)=bs.take x++[bs.getD x .zero]:=by
     rw[vD FQ,bI,bE FQ];rfl
    have HF:Hid ((w9.setCell ⟨w2.heap.size,0,za⟩ (zi (zh ⟨g9,0,za⟩) (x+1) oX)).heap[w2.heap.size]?=zh (zp #[zi (zh ⟨g9,0,za⟩) (x+1) oX,zn .i64 (g:Int)] 89 (0,0))/\oO (w2.heap.size+1) (w9.setCell ⟨w2.heap.size,0,za⟩ (zi (zh ⟨g9,0,za⟩) (x+1) oX)) (zi (zh ⟨g9,0,za⟩) (x+1) oX) (bs.take (x+1))/\(Value.slice (zh ⟨g9,0,za⟩) (x+1) oX).ownBlock≠zh gp/\(w9.setCell ⟨w2.heap.size,0,za⟩ (zi (zh ⟨g9,0,za⟩) (x+1) oX)).heap[gp]?=w3.heap[gp]?):=by
     refine⟨mA SC 0 _,?_,zxD,?_⟩
     ·rw[zx1];exact Xl.keep (by simp) λb h1 _=>Below.heap_setCell _ _ _ _ (by show b≠w2.heap.size;omega)
     ·rw[Below.heap_setCell _ _ _ _ (by show gp≠w2.heap.size;omega)];exact zxc
    have hbF:zw w2.heap.size w2 (w9.setCell ⟨w2.heap.size,0,za⟩ (zi (zh ⟨g9,0,za⟩) (x+1) oX)):=zz2.setCell (p:=⟨w2.heap.size,0,za⟩) (ax _) _;have hsF:w3.heap.size<=(w9.setCell ⟨w2.heap.size,0,za⟩ (zi (zh ⟨g9,0,za⟩) (x+1) oX)).heap.size:=by simp;omega
    clear Xl kE at9 SC zxc zxD zx1 QB HN9 pz0 pz1 pf0 pf1 qz0 qz1 qz2 qf2;go_wp2
    go_roundw
    case rel=>exact⟨x+1,_,by omega,by go_num,hbF,hsF,HF⟩
    case measure=>simp[intOf];omega
end Go.Proofs.Ytfajjdgkiilhfaa
