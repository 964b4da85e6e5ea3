import Derived.Test.YtfajjdgkiilhfaaGreatDoorC23
import Derived.Lib.ConvBytes
namespace Go.Proofs.YtfajjdgkiilhfaaGreatDoor
open Proofs.Tryz
open RowKit renaming Hid->zb,Below->zg
open Option renaming none->zc,some->zd
open Value renaming int->ze,slice->zf,agg->zk
open Go renaming Value->zh,World->zj,Calls->zl,TypeId->zm
open Obj renaming cells->zi
set_option maxHeartbeats 8000000
set_option maxRecDepth 100000
open Go.RowKit
section
attribute [local go_sem ↓] wp_at_zero wp_at_succ
section
attribute [local go_sem ↓] Zz
theorem ziG{lo:Nat}(cv nv tv ev:zh)(d:aL)(w:zj)(hs:dP lo w cv nv tv ev d)(hB:dH d=true):
  zl prog 59 #[zk #[cv,ze .i64 d.width,nv,tv,ev]] w (zxT w d):=by
 have hf:=C6 hB;obtain⟨i0,hi,da,dt,cR⟩:=info_parts Tryz.pX;obtain⟨iS,J1,Km,Kn,Ko⟩:=info_parts Tryz.zCn;replace hs:=hs.low (dz _);have j7:=hf.n1;have kA:=hf.n2;have cI:=hs;obtain⟨⟨ca,cc,rfl,cm,cx⟩,⟨na,nc,rfl,nm,nx⟩,⟨ta,tc,rfl,tm,tx⟩,⟨ea,ec,rfl,em,ex⟩⟩:=cI;obtain⟨tb,rH,rfl,_,tl,tq⟩:=tx (by omega);obtain⟨eb,rn,rfl,_,el,eq⟩:=ex (by have:=hf.fl;omega);generalize hcv:Value.slice ca d.ai.length cc=cv at *;generalize GZ:Value.slice na d.next.length nc=nv at *;clear cm nm cx nx tx ex hcv GZ;obtain⟨W0,aw⟩:∃W0,(w.alloc (zi #[cv,ze .i64 d.width,nv,zf (zd ⟨tb,rH,zc⟩) d.tag.length tc,zf (zd ⟨eb,rn,zc⟩) d.fin.length ec] 25)).alloc (zi bI 25)=W0:=⟨_,rfl⟩;have aD:zg w.heap.size w W0:=by rw[<-aw];exact(ax).alloc (by simp) _
 have x0:W0.heap[w.heap.size]?=zd (zi #[cv,ze .i64 d.width,nv,zf (zd ⟨tb,rH,zc⟩) d.tag.length tc,zf (zd ⟨eb,rn,zc⟩) d.fin.length ec] 25 (0,0)):=by
  rw[<-aw];exact(Below.heap_alloc _ _ _ (by simp)).trans (aJ w _)
 have z0:W0.heap[w.heap.size+1]?=zd (zi bI 25 (0,0)):=by
  rw[<-aw];have:=aJ (w.alloc (zi #[cv,ze .i64 d.width,nv,zf (zd ⟨tb,rH,zc⟩) d.tag.length tc,zf (zd ⟨eb,rn,zc⟩) d.fin.length ec] 25)) (zi bI 25)
  simpa using this
 have hT:=S8 cv nv _ _ d _ (hs.below aD);rw[hB]at hT;unfold bI at aw;have c0:=dM x0;obtain⟨q0,q1,q2,q3,q4⟩:=c0
 go_enter func59,ntmps59
 go_wp2_with fail
 refine hT.mono ?_;rintro e w1 ⟨rfl,aO⟩;have x1:=aT x0 aO;have z1:=aT z0 aO;have B1:=aH aD aD.size aO;clear q0 q1 q2 q3 q4 hT x0 z0 aD aO;obtain⟨q0,q1,q2,q3,q4⟩:=dM x1;have hL:=zlm cv nv _ _ d w1 (hs.below B1) hf
 go_wp2_with fail
 refine hL.mono ?_;rintro e w2 ⟨g,cap,l,rfl,bL,hR,aB⟩;have x2:=aT x1 aB;have z2:=aT z1 aB;have B2:=aH B1 B1.size aB;clear q0 q1 q2 q3 q4 hL x1 z1;obtain⟨q0,q1,q2,q3,q4⟩:=dM x2;have hlen:=Fe _ l hR.nd hR.lt;have hA:=zo4 cv nv _ _ (zf (zd ⟨g,0,zc⟩) l.length cap) d l w2 (hs.below B2) hf ((zn5 bL (by omega)).low (dz _)) hR
 go_wp2_with fail
 refine hA.mono ?_;rintro e w3 ⟨v,gr,m,B,rfl,Jt,hM,fD,hm⟩;have x3:=aT x2 fD;have z3:=aT z2 fD;have B3:=aH B2 B2.size fD;have o3:=vb bL fD;clear q0 q1 q2 q3 q4 hA x2 z2 bL;obtain⟨q0,q1,q2,q3,q4⟩:=dM x3;obtain⟨ga,zAS,rfl,hga,zBw,hgo⟩:=hM.outer hR.pos;have HM:zb (∀W,zg w3.heap.size w3 W->iy B W l.length l.length (zf (zd ⟨ga,0,zc⟩) l.length zAS) gr m):=λW h=>hM.below h
 have iK:=Aa o3;have HL:zb (∀W,zg w3.heap.size w3 W->∀j,j<l.length->W.cell? ⟨g,j,zc⟩=zd (ze .i64 ((l.getD j 0:Nat):Int))):=λW h j hj=>by rw[h.cell (p:=⟨g,j,zc⟩) iK,o3.cellAt j (by omega),Le _ hj]
 clear hM hga zBw o3 aB fD hgo aw
 go_wp2_with (refine wpList_make_full _ rfl _ _ 23 rfl w3.heap.size 3 i0 _ 1 underlying23 hi da dt _ _ _ _ d.tag.length rfl rfl rfl rfl (by rw[cR];omega) (by unfold maxLen;omega) (aq _) ?_;intro w4 Kf Nj)
 have de:zg w3.heap.size w3 w4:=(Below.refl _ _).grown Nj (aq _) (by intro k h;cases h);rw[zhO]at Kf;clear Nj q0 q1 q2 q3 q4
 go_loopw [43] (λi wr=>∃k:Nat,k<=l.length/\i=ze .i64 k/\zg w3.heap.size w3 wr/\∃zs:List Nat,zb (FJ l m zs d.tag.length k)/\wr.ownsRow w3.heap.size 3 1 (zf (zd ⟨w3.heap.size,0,zc⟩) d.tag.length d.tag.length) d.tag.length (lO zs))
  (λi _=>l.length-(intOf i).toNat)
 case atStart=>exact⟨0,dz _,rfl,de,_,⟨by simp,λj hj=>absurd hj (fw _)⟩,Kf⟩
 case round=>
  clear Kf de;obtain⟨k,hk,rfl,cQ,zs,HC,bL⟩:=hrel;obtain⟨W5,oC⟩:∃W5,W5=wr:=⟨_,rfl⟩;subst oC
  by_cases hlt:k<l.length
  ·have dg:(k:Int)<(l.length:Int):=by omega
   have c0:=HL.out _ cQ k hlt;have JG:=HM.out _ cQ;have o5:=JG.SF hlt;have Hc5:zb (∀q,q<l.length->W5.cell? ⟨gr k,q,zc⟩=zd (.bool (m k q))):=λq hq=>(JG.cell hlt hq).1
   have yR:zb (m k k=false):=(hm k k hlt hlt).2 (fg.refl _ _ _);have qF:=hR.lt _ (zV hlt);have U1:zb (∀q,q<l.length->m k q=false->(∀j,j<q->m k j=true)->FJ l m (zs.set (l.getD k 0) (l.getD q 0)) d.tag.length (k+1)):=λq a b c=>HC.out.next hR.nd hlt qF a b c
   have Hst:zb (∀s1:Nat,(W5.setCell ⟨w3.heap.size,l.getD k 0,zc⟩ (ze .i64 (s1:Int))).ownsRow w3.heap.size 3 1 (zf (zd ⟨w3.heap.size,0,zc⟩) d.tag.length d.tag.length) d.tag.length (lO (zs.set (l.getD k 0) s1))):=λs1=>by
    have hst:=(bL.stored (l.getD k 0) (ze .i64 (s1:Int))).1;rw[znX]at hst;exact hst
   obtain⟨u0,d0⟩:=TK bL (j:=l.getD k 0) (by omega);have f0:=bL.frozenAt (l.getD k 0);have xN:((l.getD k 0:Nat):Int)<(d.tag.length:Int):=by omega
   clear JG;generalize l.getD k 0=s0 at *;go_wp2
   go_loopw [8] (λi wr=>∃q:Nat,q<=k/\i=ze .i64 q/\wr=W5/\zb (∀j,j<q->m k j=true))
    (λi _=>l.length-(intOf i).toNat)
   case atStart=>exact⟨0,dz _,rfl,rfl,λj hj=>absurd hj (fw _)⟩
   case round=>
    obtain⟨q,hq,rfl,rfl,HJ⟩:=hrel;have c1:=Hc5.out q (by omega);have pg:(q:Int)<(l.length:Int):=by omega
    cases Ny:m k q
    ·rw[Ny]at c1;have c2:=HL.out _ cQ q (by omega);have HN:zb _:=U1.out q (by omega) Ny HJ.out;generalize l.getD q 0=s1 at *;go_wp2
     go_roundw
     case rel=>exact⟨k+1,by omega,by go_num,cQ.setCell (aq _) _,_,HN,Hst.out _⟩
     case measure=>simp[intOf];omega
    ·rw[Ny]at c1;have hqk:q≠k:=λe=>by subst e;have:=yR.out;rw[Ny]at this;cases this
     go_wp2
     go_roundw
     case rel=>exact⟨q+1,by omega,by go_num,by first|exact rfl|trivial,λj hj=>by
      by_cases e:j=q
      ·subst e;exact Ny
      ·exact HJ.out j (by omega)⟩
     case measure=>simp[intOf];omega
  ·have cC:k=l.length:=by omega
   subst cC;have Wz:Bu d l (λs=>zs.getD s 0):=HC.out.zAW hm;have F1:zb (zg w.heap.size w W5):=aH B3 B3.size cQ;have x5:=aT x3 cQ;have z5:=aT z3 cQ;have Hu:zs.length=d.tag.length:=HC.out.1;have VJ:zb (∀W,zg W5.heap.size W5 W->∀j,j<d.tag.length->W.cell? ⟨w3.heap.size,j,zc⟩=zd (ze .i64 ((zs.getD j 0:Nat):Int))):=λW h j hj=>by
    have h1:=Aa bL;rw[h.cell (p:=⟨w3.heap.size,j,zc⟩) h1,bL.cellAt j (by omega),Le _ (by omega)]
   have Uz:zb _:=Wz;have HR:zb (uz d l):=hR;have HF:zb (eI d):=hf;have eJ:zb (dP 0 w _ _ _ _ d):=hs;obtain⟨gt,dN⟩:∃gt,W5.heap.size=gt+1:=⟨W5.heap.size-1,by have:=Aa bL;omega⟩;have HO0:zb _:=ow.start (d:=d) (x:=zs.getD 0 0) dN;have um:zb _:=qv.start Wz hR;have cz:=VJ.out _ (Below.refl _ _) 0 (by omega);have Htx:zb _:=tq;have Hfx:zb _:=eq;have F4:zb _:=dN;clear Wz HC hR hf hs B1 B2 B3 x3 z3 cQ bL Hu HM HL hm tq eq hB Jt dN;generalize zs.getD 0 0=ch0 at *;go_wp2
   go_loopw [9,10,11] (λov rv i wr=>∃(k g1 c1 g2 c2:Nat) (v:Nat->zh) (ls:Nat->List Int) (os:List Nat),i=ze .i64 k/\ov=zf (zd ⟨g1,0,zc⟩) os.length c1/\rv=zf (zd ⟨g2,0,zc⟩) k c2/\zb (v 0=zf (zd ⟨g1,0,zc⟩) os.length c1)/\zb (ow d W5 gt wr k (zf (zd ⟨g2,0,zc⟩) k c2) v ls os (k+1))/\zb (qv d l (λs=>zs.getD s 0) os k 0/\vh (bH d) (dI d) k))
    (λ_ _ i _=>d.tag.length-(intOf i).toNat)
   case atStart=>exact⟨0,W5.heap.size,1,W5.heap.size+1,0,(λ_=>zf (zd ⟨W5.heap.size,0,zc⟩) 1 1),(λ_=>[(ch0:Int)]),[ch0],rfl,rfl,rfl,rfl,HO0.out,um.out,λj hj=>absurd hj (fw _)⟩
   case round=>
    clear HO0 um cz;obtain⟨k,g1,c1,g2,c2,v,ls,os,rfl,rfl,rfl,VG,HO,HI⟩:=hrel;obtain⟨W6,Xl⟩:∃W6,W6=wr:=⟨_,rfl⟩;subst Xl;have AV:=HI.out.1.len HR.out
    by_cases hk:k<os.length
    ·have Nl:(k:Int)<(os.length:Int):=by omega
     have DF:zb _:=HO.out.new (by omega);have HG:zb (vh (bH d) (dI d) (k+1)):=HI.out.2.next (by rw[<-HI.out.1.al.length];exact hk);go_wp2
     go_loopw [9,12,13] (λov rw i wr=>∃(c g1 c1 g3 c3:Nat) (v:Nat->zh) (ls:Nat->List Int) (os:List Nat),c<=256/\k<os.length/\i=ze .i64 c/\ov=zf (zd ⟨g1,0,zc⟩) os.length c1/\rw=zf (zd ⟨g3,0,zc⟩) c c3/\zb (v 0=zf (zd ⟨g1,0,zc⟩) os.length c1/\v (k+1)=zf (zd ⟨g3,0,zc⟩) c c3/\ls (k+1)=wC d k c)/\zb (ow d W5 gt wr k (zf (zd ⟨g2,0,zc⟩) k c2) v ls os (k+2))/\zb (qv d l (λs=>zs.getD s 0) os k c))
      (λ_ _ i _=>256-(intOf i).toNat)
     case atStart=>exact⟨0,g1,c1,_,_,_,_,os,dz _,hk,rfl,rfl,rfl,⟨by rw[eF _ _ (by omega)];exact VG.out,kI _ _ _,jj _ _ _⟩,DF.out,HI.out.1⟩
     case round=>
      clear DF AV Nl hk VG HO;obtain⟨c,g1,c1,g3,c3,v,ls,os,hc,hk,rfl,rfl,rfl,dp,HO,eT⟩:=hrel;obtain⟨W7,Ek⟩:∃W7,W7=wr:=⟨_,rfl⟩;subst Ek
      by_cases jE:c<256
      ·have hi8:(c:Int)<256:=by omega
       have hi7:(k:Int)<(os.length:Int):=by omega
       have AV:=eT.out.len HR.out;obtain⟨t1,t2,t3,t4⟩:=eT.out.to Uz.out HR.out hk jE;have nL:=HR.out.lt _ (eT.out.can _ (zV hk)).1;have Sp:=HR.out.lt _ t1;have nH:=HR.out.lt _ t2;have hB7:zg w.heap.size w W7:=F1.out.trans (HO.out.below.mono (by have:=F1.out.size;rw[F4.out]at this;exact this));have Rg:zg W5.heap.size W5 W7:=HO.out.below.mono (by rw[F4.out];exact aq _);have hgo:∀W,zg W7.heap.size W7 W->zl prog 75 #[zk #[cv,ze .i64 d.width,nv,zf (zd ⟨tb,rH,zc⟩) d.tag.length tc,zf (zd ⟨eb,rn,zc⟩) d.fin.length ec],ze .i64 ((os.getD k 0:Nat):Int),ze .i64 (c:Int)] W λe w'=>e=.returned (ze .i64 ((bH d (os.getD k 0) c:Nat):Int))/\zg W.heap.size W w':=λW hW=>zsN _ _ _ _ d _ c _ _ rfl W ((eJ.out.below hB7).below hW) HF.out nL jE rfl
       have Hgo:zb _:=hgo;have Yh:=HO.out.au.own 0 (by omega);rw[dp.out.1,HO.out.l0]at Yh;obtain⟨g1',VX,e1,_,zyQ,NF⟩:=C7 Yh (by rw[gV];omega);rw[gV]at e1;cases e1;have x7:=Rg.block _ (ay x5) |>.trans x5
       have HH:zb (∀W,zg W7.heap.size W7 W->W.cell? ⟨w.heap.size,0,zc⟩=zd cv/\W.cell? ⟨w.heap.size,1,zc⟩=zd (ze .i64 d.width)/\W.cell? ⟨w.heap.size,2,zc⟩=zd nv/\W.cell? ⟨w.heap.size,3,zc⟩=zd (zf (zd ⟨tb,rH,zc⟩) d.tag.length tc)/\W.cell? ⟨w.heap.size,4,zc⟩=zd (zf (zd ⟨eb,rn,zc⟩) d.fin.length ec)/\W.cell? ⟨g1,k,zc⟩=zd (ze .i64 ((os.getD k 0:Nat):Int))/\W.cell? ⟨w3.heap.size,bH d (os.getD k 0) c,zc⟩=zd (ze .i64 ((zs.getD (bH d (os.getD k 0) c) 0:Nat):Int))):=λW hW=>by
        obtain⟨q0,q1,q2,q3,q4⟩:=dM (aT x7 hW);refine⟨q0,q1,q2,q3,q4,?_,VJ.out W (Rg.trans (hW.mono Rg.size)) _ Sp⟩;rw[hW.cell (p:=⟨g1,k,zc⟩) zyQ,NF k (by rw[gV];exact hk),A2]
       have Qj:zb _:=λh=>eT.out.old Uz.out HR.out hk jE h
       have Qi:zb _:=λh=>eT.out.new Uz.out HR.out hk jE h
       have XP:((bH d (os.getD k 0) c:Nat):Int)<(d.tag.length:Int):=by omega
       generalize YF:bH d (os.getD k 0) c=ta at *;generalize hza:zs.getD ta 0=za at *;generalize YC:os.getD k 0=so at *;clear YF hza YC t1 t2 t3 t4 NF Yh x7;go_wp2
       go_region_held3 (λw'=>w'.cell? ⟨w.heap.size,0,zc⟩=zd cv/\w'.cell? ⟨w.heap.size,1,zc⟩=zd (ze .i64 d.width)/\w'.cell? ⟨w.heap.size,2,zc⟩=zd nv/\w'.cell? ⟨w.heap.size,3,zc⟩=zd (zf (zd ⟨tb,rH,zc⟩) d.tag.length tc)/\w'.cell? ⟨w.heap.size,4,zc⟩=zd (zf (zd ⟨eb,rn,zc⟩) d.fin.length ec)/\w'.cell? ⟨g1,k,zc⟩=zd (ze .i64 (so:Int))/\w'.cell? ⟨w3.heap.size,ta,zc⟩=zd (ze .i64 (za:Int))) ((first|exact HH.out _ (Below.refl _ _)|exact HH.out _ (Below.refl _ _).drew|exact HH.out _ ((Below.refl _ _).drew.trans gQ))) ((go_at_call 75;refine(Hgo.out _ (Below.refl _ _).drew).mono ?_;rintro e w8 ⟨rfl,gQ⟩))
       have zyu:zg W7.heap.size W7 w8:=(Below.refl _ _).drew.trans gQ;have DG:zb _:=HO.out.on zyu;have Yi:=DG.out.au.own 0 (by omega);rw[dp.out.1,DG.out.l0]at Yi;have du:=Ow _ (dy os) (za:Int) w8 (Yi.at (by rw[gV];omega));have Yw:=DG.out.size;have Vu:zb _:=DG.out.l0;have Vq:zb _:=DG.out.au;clear hgo zyu gQ Yi zyQ hB7 Rg Hgo HH eT;generalize hpu:ld (dy os) (za:Int)=pu at *;clear hpu
       by_cases hp:pu<0
       ·have LU:zb _:=(Qi.out hp).1;have Hp9:zb _:=(Qi.out hp).2;clear Qj Qi
        go_wp2_with fail
        refine du.mono ?_;rintro e w' ⟨rfl,hw'⟩;subst w'
        go_wp2_with (at_builtin;refine kJ Vq.out _ rfl rfl (.tmp 95) (.tmp 97) rfl 0 (by omega) (dy os) Vu.out os.length (gV _) (by exact dp.out.1.symm) (za:Int) rfl (by omega) Yw ?_;intro g4 c4 w9 Ee GJ)
        have U6:zb _:=DG.out.grow (by omega) (.inl rfl) Ee GJ (os':=os++[za]) (by rw[jj];simp[dy]);have NG:=Ee.own 0 (by omega);rw[kI,jj]at NG;have zzn:=Ow _ _ (za:Int) w9 (NG.at (by simp[dy];omega));have e9:ld (dy os++[(za:Int)]) (za:Int)=(ke d k c:Int):=by have:=Hp9.out;simpa [dy,ke]using this
        rw[e9]at zzn;have hs9:=U6.out.size;have Hf9:zb _:=U6.out.au;have Hv9:zb (Value.slice (zd ⟨g3,0,zc⟩) c c3=upd v 0 (zf (zd ⟨g4,0,zc⟩) (os.length+1) c4) (k+1)):=by
         show _=_;rw[eF _ _ (by omega)];exact dp.out.2.1.symm
        have Hl9:zb (bG ls 0 (dy os++[(za:Int)]) (k+1)=wC d k c):=by
         show _=_;rw[eO _ _ (by omega)];exact dp.out.2.2
        clear Ee GJ NG e9 du Vq DG Vu;generalize hrc:(ke d k c:Int)=rc at *;have VA:zb _:=hrc;clear hrc;refine zzn.mono ?_;rintro e w' ⟨rfl,hw'⟩;subst w'
        go_wp2_with (at_builtin;refine kJ Hf9.out _ rfl rfl (.tmp 99) (.tmp 103) rfl (k+1) (by omega) (wC d k c) Hl9.out c (OR _ _ _) (by exact Hv9.out) rc rfl (by omega) hs9 ?_;intro g5 c5 kf rZ sb)
        have U4:zb _:=U6.out.grow (i:=k+1) (by omega) (.inr (by omega)) rZ sb (os':=os++[za]) (by rw[eO _ _ (by omega),jj];simp[dy])
        go_roundw
        case rel=>
         refine⟨c+1,g4,c4,g5,c5,_,_,os++[za],by omega,by simp;omega,by go_num,by simp,rfl,⟨?_,kI _ _ _,?_⟩,U4.out,LU.out⟩
         ·rw[eF _ _ (by omega),kI];simp
         ·rw[jj,zlO,<-VA.out]
        case measure=>simp[intOf];omega
       ·have LU:zb _:=(Qj.out (by omega)).1;have VA:zb ((ke d k c:Int)=pu):=(Qj.out (by omega)).2.symm;clear Qj Qi
        go_wp2_with fail
        refine du.mono ?_;rintro e w' ⟨rfl,hw'⟩;subst w'
        go_wp2_with fail
        refine du.mono ?_;rintro e w' ⟨rfl,hw'⟩;subst w'
        go_wp2_with (at_builtin;refine kJ Vq.out _ rfl rfl (.tmp 99) (.tmp 103) rfl (k+1) (by omega) (wC d k c) dp.out.2.2 c (OR _ _ _) (by exact dp.out.2.1.symm) pu rfl (by omega) Yw ?_;intro g5 c5 kf rZ sb)
        have U4:zb _:=DG.out.grow (i:=k+1) (by omega) (.inr (by omega)) rZ sb (os':=os) (by rw[eO _ _ (by omega)];exact Vu.out)
        go_roundw
        case rel=>
         refine⟨c+1,g1,c1,g5,c5,_,_,os,by omega,hk,by go_num,rfl,rfl,⟨?_,kI _ _ _,?_⟩,U4.out,LU.out⟩
         ·rw[eF _ _ (by omega)];exact dp.out.1
         ·rw[jj,zlO,<-VA.out]
        case measure=>simp[intOf];omega
      ·have hcc:c=256:=by omega
       subst hcc;have AV:=eT.out.len HR.out;have Yv:=HO.out.size;have zAs:zb _:=HO.out.out
       go_wp2_with (at_builtin;refine CL W7 _ rfl rfl (.tmp 105) (.tmp 107) 131 rfl (gt+1) 23 iS (zf zc 0 0) 24 underlying131 J1 Km Kn Ko rfl g2 c2 k (Dl v k) (zf (zd ⟨g3,0,zc⟩) 256 c3) rfl zAs.out rfl rfl (by omega) (by omega) Yv ?_;intro g4 c4 w9 NG zBF zC7)
       go_roundw
       case rel=>exact⟨k+1,g1,c1,g4,c4,v,ls,os,by go_num,rfl,rfl,dp.out.1,HO.out.more dp.out.2.2 zBF (by rw[dp.out.2.1];exact NG),eT.out.row rfl,HG.out⟩
       case measure=>simp[intOf];omega
    ·have dY:k=os.length:=by
      have:=zjN HI.out.2;rw[<-HI.out.1.al.length]at this;omega
     have Hkw:zb ((eX (bH d) (dI d) k 0).length=k):=by
      show _=_;rw[<-HI.out.1.al.length];exact dY.symm
     obtain⟨R,WX⟩:∃R,R=ke d:=⟨_,rfl⟩;have yP:zb _:=WX;have HRw:zb (∀W,zg W6.heap.size W6 W->∀x,x<k->∃gx cx,W.cell? ⟨g2,x,zc⟩=zd (zf (zd ⟨gx,0,zc⟩) 256 cx)/\∀c,c<256->W.cell? ⟨gx,c,zc⟩=zd (ze .i64 ((R x c:Nat):Int))):=by
      rw[WX];exact HO.out.cells (by omega)
     have Hos:zb (∀W,zg W6.heap.size W6 W->∀j,j<os.length->W.cell? ⟨g1,j,zc⟩=zd (ze .i64 ((os.getD j 0:Nat):Int))):=λW hW j hj=>by
      have ho:=HO.out.au.own 0 (by omega);rw[VG.out,HO.out.l0]at ho;obtain⟨g',c',e1,_,oH,hc⟩:=C7 ho (by rw[gV];omega);rw[gV]at e1;cases e1;rw[hW.cell (p:=⟨g1,j,zc⟩) oH,hc j (by rw[gV];exact hj),A2]
     have hB6:zg w.heap.size w W6:=F1.out.trans (HO.out.below.mono (by have:=F1.out.size;rw[F4.out]at this;exact this));have Xk:zg W5.heap.size W5 W6:=HO.out.below.mono (by rw[F4.out];exact aq _);have x6:=(Xk.block _ (ay x5)).trans x5;have z6:=(Xk.block _ (ay z5)).trans z5;have qY:zb _:=mH.start (W8:=W6);have FN:zb _:=hB6;have HHk:zb (k=os.length):=dY;have jf:k<=4000:=by omega
     clear WX dY hB6 Xk x5 z5 HO VJ F4;unfold bI at qY;go_wp2
     go_loopw [16,17] (λhv i wr=>∃(c g4 c4:Nat) (v:Nat->zh) (ls:Nat->List Int),c<=256/\i=ze .i64 c/\hv=zf (zd ⟨g4,0,zc⟩) (aY k R c).length c4/\zb (v 4=zf (zd ⟨g4,0,zc⟩) (aY k R c).length c4/\ls 4=dy (aY k R c)/\ls 0=(List.range c).map (λc=>(fN k R c:Int))/\ls 1=[]/\ls 2=[]/\ls 3=[])/\zb (mH W6 W6.heap.size wr 0 v ls))
      (λ_ i _=>256-(intOf i).toNat)
     case atStart=>exact⟨0,_,_,_,_,dz _,rfl,rfl,⟨kI _ _ _,jj _ _ _,rfl,rfl,rfl,rfl⟩,qY.out⟩
     case round=>
      clear qY;obtain⟨c,g4,c4,v,ls,hc,rfl,rfl,dp,HS⟩:=hrel;obtain⟨W9,MW⟩:∃W9,W9=wr:=⟨_,rfl⟩;subst MW
      by_cases jE:c<256
      ·have hi8:(c:Int)<256:=by omega
       have Ey:=KV k R c;have Hhd:zb (∀W,zg W9.heap.size W9 W->∀j,j<(aY k R c).length->W.cell? ⟨g4,j,zc⟩=zd (ze .i64 (((aY k R c).getD j 0:Nat):Int))):=λW hW j hj=>by
        have ho:=HS.out.au.own 4 (by omega);rw[dp.out.1,dp.out.2.1]at ho;obtain⟨g',c',e1,_,oH,hcc⟩:=C7 ho (by rw[gV];omega);rw[gV]at e1;cases e1;rw[hW.cell (p:=⟨g4,j,zc⟩) oH,hcc j (by rw[gV];exact hj),A2]
       have H69:zb (zg W6.heap.size W6 W9):=HS.out.below;have zxS:zb (∀j,j<(aY k R c).length->lC k R ((aY k R c).getD j 0) c=true->vJ k R c (j+1)=j):=λj h1 h2=>zsn h1 h2
       have Ay:zb (∀j,j<(aY k R c).length->lC k R ((aY k R c).getD j 0) c=false->vJ k R c (j+1)=vJ k R c j):=λj h1 h2=>zt2 h1 h2
       have Mp:zb (∀j,j<(aY k R c).length->(aY k R c).getD j 0<c):=λj hj=>Il k R c _ (zV hj)
       have zAn:zb (vJ k R c 0=-1):=by show _=_;unfold vJ;rw[ab (by omega)]
       have Vm:zb (vJ k R c (aY k R c).length=if fN k R c<(aY k R c).length then (fN k R c:Int) else -1):=rfl;have Vn:zb (fN k R c<=(aY k R c).length):=LG;have Qk:zb _:=yg k R c;obtain⟨hd,Ew⟩:∃hd,aY k R c=hd:=⟨_,rfl⟩;obtain⟨cf,pP⟩:∃cf,fN k R c=cf:=⟨_,rfl⟩;obtain⟨cV,hcV⟩:∃cV:Nat->Int,(λj=>vJ k R c j)=cV:=⟨_,rfl⟩;have Ml:zb (∀j,vJ k R c j=cV j):=λj=>congrFun hcV j
       rw[Ew]at Hhd zxS Ay Mp Vm Vn Qk dp Ey ⊢;rw[pP]at Vm Vn Qk;have Hcf:zb _:=pP;have Hhh:zb _:=Ew;clear Ew pP hcV;go_wp2
       go_loopw [18,117] (λcv i wr=>∃j:Nat,j<=hd.length/\i=ze .i64 j/\cv=ze .i64 (cV j)/\zg W9.heap.size W9 wr)
        (λ_ i _=>hd.length-(intOf i).toNat)
       case atStart=>exact⟨0,dz _,rfl,by rw[<-Ml.out,zAn.out],Below.refl _ _⟩
       case round=>
        obtain⟨j,hj,rfl,rfl,JQ⟩:=hrel;obtain⟨VL,zBd⟩:∃VL,VL=wr:=⟨_,rfl⟩;subst zBd
        by_cases iD:j<hd.length
        ·have XP:(j:Int)<(hd.length:Int):=by omega
         have c0:=Hhd.out _ JQ j iD;have hlt:=Mp.out j iD;have Hy:zb _:=zxS.out j iD;have Hn:zb _:=Ay.out j iD;generalize hd.getD j 0=h at *;go_wp2
         go_loopw [21,124] (λsv i wr=>∃x:Nat,x<=k/\i=ze .i64 x/\sv=.bool (lC x R h c)/\zg W9.heap.size W9 wr)
          (λ_ i _=>k-(intOf i).toNat)
         case atStart=>exact⟨0,dz _,rfl,rfl,JQ⟩
         case round=>
          obtain⟨x,hx,rfl,rfl,uH⟩:=hrel
          by_cases lN:x<k
          ·have hix:(x:Int)<(k:Int):=by omega
           obtain⟨gx,cx,o1,Et⟩:=HRw.out wr (H69.out.trans (uH.mono H69.out.size)) x lN;have a1:=Et h (by omega);have a2:=Et c jE;have hh2:(h:Int)<256:=by omega
           have HX:zb (lC (x+1) R h c=(lC x R h c&&(R x h==R x c))):=zoH x R h c;clear Et;generalize R x h=r1 at *;generalize R x c=r2 at *
           by_cases hr:r1=r2
           ·have iL:((r1:Int) != (r2:Int))=false:=by simp[hr]
            go_wp2
            go_quiet (fail)
            go_wp2
            go_roundw
            case rel=>exact⟨x+1,by omega,by go_num,by rw[HX.out];simp[hr],below_drewN uH _⟩
            case measure=>simp[intOf];omega
           ·have iL:((r1:Int) != (r2:Int))=true:=by simp;omega
            go_wp2
            go_quiet (fail)
            go_wp2
            go_roundw
            case rel=>exact⟨x+1,by omega,by go_num,by rw[HX.out];simp[hr],below_drewN uH _⟩
            case measure=>simp[intOf];omega
          ·have wv:x=k:=by omega
           subst wv;cases hce:lC x R h c
           ·have HE:zb _:=Hn.out hce;go_wp2
            go_roundw
            case rel=>exact⟨j+1,by omega,by go_num,by rw[<-Ml.out,<-Ml.out,HE.out],uH⟩
            case measure=>simp[intOf];omega
           ·have HE:zb _:=Hy.out hce;go_wp2
            go_roundw
            case rel=>exact⟨j+1,by omega,by go_num,by rw[<-Ml.out,HE.out],uH⟩
            case measure=>simp[intOf];omega
        ·have qy:j=hd.length:=by omega
         subst qy;have gL:zb _:=HS.out.on JQ;have cI:=gL.out.size;obtain⟨y0,y1,y2,y3,y4⟩:=cE gL.out.box;have Mn:zb _:=gL.out.au;obtain⟨⟨a0,p0⟩,e0⟩:=dQ (gL.out.au.own 0 (by omega));rw[dp.out.2.2.1]at e0;simp only[lX,IJ]at e0;rw[e0]at y0;have yQ:zb _:=e0;have hce:=Vm.out;rw[Ml.out]at hce;have RE:∀o,o=W6.heap.size->o=W6.heap.size:=λ_ h=>h
         clear e0 RE y1 y2 y3 y4
         by_cases aV:cf<hd.length
         ·rw[af aV]at hce;rw[hce];clear hce
          go_wp2_with (at_builtin;refine kJ Mn.out _ rfl rfl (.tmp 150) (.tmp 152) rfl 0 (by omega) ((List.range c).map (λc=>(fN k R c:Int))) dp.out.2.2.1 c (by simp) (by exact yQ.out.symm) (cf:Int) rfl (by omega) cI ?_;intro g5 c5 kf rZ sb;obtain⟨AH,yL⟩:=gL.out.field (i:=0) (by omega) rZ sb;have E8:=(cE AH).1;rw[yQ.out]at E8;have f10:=aM _ _ 0 _ _ AH)
          go_roundw
          case rel=>
           have eh:aY k R (c+1)=hd:=by rw[Qk.out,af aV]
           refine⟨c+1,g4,c4,_,_,by omega,by go_num,by rw[eh],⟨by rw[eh,eF _ _ (by omega)];exact dp.out.1,by rw[eh,eO _ _ (by omega)];exact dp.out.2.1,?_,?_,?_,?_⟩,yL⟩
           ·rw[jj,yE,sY];simp[Hcf.out]
           ·rw[eO _ _ (by omega)];exact dp.out.2.2.2.1
           ·rw[eO _ _ (by omega)];exact dp.out.2.2.2.2.1
           ·rw[eO _ _ (by omega)];exact dp.out.2.2.2.2.2
          case measure=>simp[intOf];omega
         ·rw[ab aV]at hce;rw[hce];have zyD:cf=hd.length:=by have:=Vn.out;omega
          have zAm:zb _:=zyD;clear hce zyD y0
          go_wp2_with (first|(at_builtin;refine kJ Mn.out _ rfl rfl (.tmp 145) (.tmp 147) rfl 4 (by omega) (dy hd) dp.out.2.1 hd.length (gV _) (by exact dp.out.1.symm) (c:Int) rfl (by omega) cI ?_;intro g5 c5 kf rZ sb;have gY:zb _:=gL.out.heads rZ sb;have pV:=gY.out.size;have E8:=(cE gY.out.box).1;rw[eF _ _ (by omega),yQ.out]at E8;have Hf2:zb _:=gY.out.au;clear rZ sb)|(at_builtin;refine kJ Hf2.out _ rfl rfl (.tmp 150) (.tmp 152) rfl 0 (by omega) ((List.range c).map (λc=>(fN k R c:Int))) (by rw[eO _ _ (by omega)];exact dp.out.2.2.1) c (by simp) (by rw[eF _ _ (by omega)];exact yQ.out.symm) (hd.length:Int) rfl (by omega) pV ?_;intro g6 c6 Om zA6 zBv;obtain⟨zx7,zz5⟩:=gY.out.field (i:=0) (by omega) zA6 zBv;have y11:=(cE zx7).1;rw[eF _ _ (by omega),yQ.out]at y11;have f11:=aM _ _ 0 _ _ zx7))
          go_roundw
          case rel=>
           have eh:aY k R (c+1)=hd++[c]:=by rw[Qk.out,ab aV]
           refine⟨c+1,g5,c5,_,_,by omega,by go_num,by rw[eh];simp,⟨?_,?_,?_,?_,?_,?_⟩,zz5⟩
           ·rw[eh,eF _ _ (by omega),kI];simp
           ·rw[eh,eO _ _ (by omega),jj];simp[dy]
           ·rw[jj,yE,sY];simp[Hcf.out,zAm.out]
           ·rw[eO _ _ (by omega),eO _ _ (by omega)];exact dp.out.2.2.2.1
           ·rw[eO _ _ (by omega),eO _ _ (by omega)];exact dp.out.2.2.2.2.1
           ·rw[eO _ _ (by omega),eO _ _ (by omega)];exact dp.out.2.2.2.2.2
          case measure=>simp[intOf];omega
      ·have hcc:c=256:=by omega
       have Mm:zb (c=256):=hcc;clear hcc;have Ey:=KV k R c;have HSw:zb _:=HS.out.width ((aY k R c).length:Int);obtain⟨y0,y1,y2,y3,y4⟩:=cE HS.out.box;have f1:=aM _ _ 1 _ _ HS.out.box;have HmL:zb (∀uS:Nat->List Int,uS 0=(List.range c).map (λc=>(fN k R c:Int))->uS 1=Bg R (aY k R c) os.length->uS 2=(os.take os.length).map (λs=>d.tag.getD s 0)->uS 3=(os.take os.length).map (λs=>d.fin.getD s 0)->∀i,i<4->uS i=sE d k i):=λuS h0 h1 h2 h3 i hi=>by
        rw[sW]at h2 h3;have ha:=HI.out.1.al.answers
        match i,hi with
        |0,_=>rw[h0,yP.out,Mm.out];rfl
        |1,_=>rw[h1,yP.out,<-HHk.out,Mm.out];rfl
        |2,_=>rw[h2,ha.1];rfl
        |3,_=>rw[h3,ha.2];rfl
       have HwL:zb ((aY k R c).length=(aY k (ke d) 256).length):=by show _=_;rw[yP.out,Mm.out]
       have Mp:zb (∀j,j<(aY k R c).length->(aY k R c).getD j 0<256):=λj hj=>by have:=Il k R c _ (zV hj);omega
       have Hon:zb (∀q,q<os.length->os.getD q 0<d.tag.length):=λq hq=>HR.out.lt _ (HI.out.1.can _ (zV hq)).1
       have Hot:zb (∀W,zg W6.heap.size W6 W->∀s,s<d.tag.length->W.cell? ⟨tb,rH+s,zc⟩=zd (ze .i64 (d.tag.getD s 0))/\W.cell? ⟨eb,rn+s,zc⟩=zd (ze .i64 (d.fin.getD s 0))):=λW hW s hs=>by
        have hBW:=FN.out.trans (hW.mono FN.out.size);exact⟨by rw[hBW.cell (p:=⟨tb,rH+s,zc⟩) tl];exact Htx.out s hs,by rw[hBW.cell (p:=⟨eb,rn+s,zc⟩) el];exact Hfx.out s (by have:=HF.out.fl;omega)⟩
       have HfL:zb (d.fin.length=d.tag.length):=HF.out.fl;have HHG:zb _:=HI.out.2;generalize aY k R c=hd at *;clear j7;go_wp2
       go_loopw [160] (λi wr=>∃(q:Nat) (v:Nat->zh) (ls:Nat->List Int),q<=os.length/\i=ze .i64 q/\zb (v 4=zf (zd ⟨g4,0,zc⟩) hd.length c4/\ls 4=dy hd/\ls 0=(List.range c).map (λc=>(fN k R c:Int))/\ls 1=Bg R hd q/\ls 2=(os.take q).map (λs=>d.tag.getD s 0)/\ls 3=(os.take q).map (λs=>d.fin.getD s 0))/\zb (mH W6 W6.heap.size wr (hd.length:Int) v ls))
        (λi _=>os.length-(intOf i).toNat)
       case atStart=>exact⟨0,v,ls,dz _,rfl,⟨dp.out.1,dp.out.2.1,dp.out.2.2.1,by rw[dp.out.2.2.2.1];rfl,by rw[dp.out.2.2.2.2.1];rfl,by rw[dp.out.2.2.2.2.2];rfl⟩,HSw.out⟩
       case round=>
        clear HSw dp HS y0 y1 y2 y3 y4 f1;obtain⟨q,v,ls,hq,rfl,dp,HS⟩:=hrel;obtain⟨W9,MW⟩:∃W9,W9=wr:=⟨_,rfl⟩;subst MW
        by_cases j8:q<os.length
        ·have XP:(q:Int)<(os.length:Int):=by omega
         have hik:(q:Int)<(k:Int):=by have:=HHk.out;omega
         have hqk:q<k:=by omega
         have c0:=Hos.out _ HS.out.below q j8;have YC:=Hon.out q j8;have HT:zb _:=zl8 (λs=>d.tag.getD s 0) os j8;have HE:zb _:=zl8 (λs=>d.fin.getD s 0) os j8;have Hco:zb (∀W,zg W6.heap.size W6 W->W.cell? ⟨tb,rH+os.getD q 0,zc⟩=zd (ze .i64 (d.tag.getD (os.getD q 0) 0))/\W.cell? ⟨eb,rn+os.getD q 0,zc⟩=zd (ze .i64 (d.fin.getD (os.getD q 0) 0))):=λW hW=>Hot.out W hW _ YC
         have hif:((os.getD q 0:Nat):Int)<(d.fin.length:Int):=by have:=HfL.out;omega
         have XS:((os.getD q 0:Nat):Int)<(d.tag.length:Int):=by omega
         generalize d.tag.getD (os.getD q 0) 0=t1 at *;generalize d.fin.getD (os.getD q 0) 0=t2 at *;generalize os.getD q 0=so at *;go_wp2
         go_loopw [167] (λi wr=>∃(j:Nat) (v:Nat->zh) (ls:Nat->List Int),j<=hd.length/\i=ze .i64 j/\zb (v 4=zf (zd ⟨g4,0,zc⟩) hd.length c4/\ls 4=dy hd/\ls 0=(List.range c).map (λc=>(fN k R c:Int))/\ls 1=yt R hd q j/\ls 2=(os.take q).map (λs=>d.tag.getD s 0)/\ls 3=(os.take q).map (λs=>d.fin.getD s 0))/\zb (mH W6 W6.heap.size wr (hd.length:Int) v ls))
          (λi _=>hd.length-(intOf i).toNat)
         case atStart=>exact⟨0,v,ls,dz _,rfl,⟨dp.out.1,dp.out.2.1,dp.out.2.2.1,by rw[zpd];exact dp.out.2.2.2.1,dp.out.2.2.2.2.1,dp.out.2.2.2.2.2⟩,HS.out⟩
         case round=>
          clear c0 dp HS;obtain⟨j,v,ls,hj,rfl,dp,HS⟩:=hrel;have cI:=HS.out.size;have iK:W6.heap.size<wr.heap.size:=by omega
          have Mn:zb _:=HS.out.au;obtain⟨y0,y1,y2,y3,y4⟩:=cE HS.out.box
          by_cases iD:j<hd.length
          ·have hij:(j:Int)<(hd.length:Int):=by omega
           have chd:wr.cell? ⟨g4,j,zc⟩=zd (ze .i64 ((hd.getD j 0:Nat):Int)):=by
            have ho:=HS.out.au.own 4 (by omega);rw[dp.out.1,dp.out.2.1]at ho;obtain⟨g',c',e1,_,oH,hcc⟩:=C7 ho (by rw[gV];omega);rw[gV]at e1;cases e1;rw[hcc j (by rw[gV];exact iD),A2]
           have hlt:=Mp.out j iD;obtain⟨gx,cx,o1,Et⟩:=HRw.out wr HS.out.below q hqk;have a1:=Et _ hlt;have HJ:zb _:=zpc R hd q iD;have GV:=zqT R hd (q:=q) (j:=j) (by omega) (by omega);obtain⟨⟨a0,p0⟩,e0⟩:=dQ (HS.out.au.own 1 (by omega));rw[dp.out.2.2.2.1]at e0;obtain⟨nl,jp⟩:∃nl,(yt R hd q j).length=nl:=⟨_,rfl⟩;rw[jp]at e0 GV;rw[e0]at y2;have yQ:zb _:=e0;have Vw:zb _:=jp;have hh2:((hd.getD j 0:Nat):Int)<256:=by omega
           clear jp e0 Et y0 y1 y3 y4;generalize R q (hd.getD j 0)=r at *;generalize hd.getD j 0=h at *;obtain⟨g5,c5,kf,hrun,rZ,sb⟩:=zmp Mn.out 1 (by omega) (yt R hd q j) dp.out.2.2.2.1 nl Vw.out _ yQ.out (r:Int) (by omega) cI 23;obtain⟨AH,IZ⟩:=HS.out.fieldAt (i:=1) (off:=2) (by omega) rfl rZ sb;have yL:zb _:=IZ;have E8:=(cE AH).2.2.1;rw[yQ.out]at E8;have f10:=aM _ _ 2 _ _ AH;clear rZ sb AH IZ;go_wp2
           go_big_region
           all_goals
            go_wp2
            go_roundw
            case rel=>
             refine⟨j+1,_,_,by omega,by go_num,⟨?_,?_,?_,?_,?_,?_⟩,yL.out⟩
             ·rw[eF _ _ (by omega)];exact dp.out.1
             ·rw[eO _ _ (by omega)];exact dp.out.2.1
             ·rw[eO _ _ (by omega)];exact dp.out.2.2.1
             ·rw[jj,HJ.out]
             ·rw[eO _ _ (by omega)];exact dp.out.2.2.2.2.1
             ·rw[eO _ _ (by omega)];exact dp.out.2.2.2.2.2
            case measure=>simp[intOf];omega
          ·have qy:j=hd.length:=by omega
           subst qy;obtain⟨k1,k2⟩:=Hco.out _ HS.out.below;have xw:=(HS.out.below.block _ (ay x6)).trans x6;obtain⟨q0,q1,q2,q3,q4⟩:=dM xw;obtain⟨⟨a0,p0⟩,e0⟩:=dQ (HS.out.au.own 2 (by omega));rw[dp.out.2.2.2.2.1,lX,rP,Nat.min_eq_left (by omega)]at e0;rw[e0]at y3;have yQ:zb _:=e0;obtain⟨g5,c5,kf,hrun,rZ,sb⟩:=zmp Mn.out 2 (by omega) ((os.take q).map (λs=>d.tag.getD s 0)) dp.out.2.2.2.2.1 q (by rw[lX,rP,Nat.min_eq_left (by omega)]) _ yQ.out t1 (by omega) cI 23;obtain⟨AH,IZ⟩:=HS.out.fieldAt (i:=2) (off:=3) (by omega) rfl rZ sb;have E8:=(cE AH).2.2.2.1;rw[yQ.out]at E8;have f10:=aM _ _ 3 _ _ AH;obtain⟨vG,Gw⟩:∃vG,kf.setCell ⟨W6.heap.size,3,zc⟩ (zf (zd ⟨g5,0,zc⟩) (q+1) c5)=vG:=⟨_,rfl⟩;rw[Gw]at IZ;have yL:zb _:=IZ;clear rZ sb AH IZ e0 xw y0 y1 y2 y4 q0 q1 q2 q4 k2;go_wp2
           go_big_region
           clear Gw hrun E8 f10 y3 q3 k1 cI iK;obtain⟨k1,k2⟩:=Hco.out _ yL.out.below;have xw:=(yL.out.below.block _ (ay x6)).trans x6;obtain⟨q0,q1,q2,q3,q4⟩:=dM xw;obtain⟨y0,y1,y2,y3,y4⟩:=cE yL.out.box;rw[eF _ _ (by omega)]at y4;have sg:bG ls 2 ((os.take q).map (λs=>d.tag.getD s 0)++[t1]) 3=(os.take q).map (λs=>d.fin.getD s 0):=by rw[eO _ _ (by omega)];exact dp.out.2.2.2.2.2
           have Hl3:zb _:=sg;obtain⟨⟨a0',p0'⟩,e0⟩:=dQ (yL.out.au.own 3 (by omega));rw[sg,eF _ _ (by omega),lX,rP,Nat.min_eq_left (by omega)]at e0;rw[e0]at y4;have He1:zb _:=e0;have cI:=yL.out.size;have iK:W6.heap.size<vG.heap.size:=by omega
           obtain⟨g6,c6,w12,hrun,zyf,zyP⟩:=zmp yL.out.au 3 (by omega) ((os.take q).map (λs=>d.fin.getD s 0)) sg q (by rw[lX,rP,Nat.min_eq_left (by omega)]) (.slice a0' q p0') (by rw[eF _ _ (by omega)];exact He1.out) t2 (by omega) cI 23;obtain⟨VV,zxE⟩:=yL.out.fieldAt (i:=3) (off:=4) (by omega) rfl zyf zyP;have y12:=(cE VV).2.2.2.2;rw[eF _ _ (by omega),He1.out]at y12;have f12:=aM _ _ 4 _ _ VV;have zz6:zb _:=zxE;clear zyf zyP VV zxE e0 xw y0 y1 y2 y3 q0 q1 q2 q3 k1 sg;go_wp2
           go_big_region
           go_wp2
           go_roundw
           case rel=>
            refine⟨q+1,_,_,by omega,by go_num,⟨?_,?_,?_,?_,?_,?_⟩,zz6.out⟩
            ·rw[eF _ _ (by omega),eF _ _ (by omega)];exact dp.out.1
            ·rw[eO _ _ (by omega),eO _ _ (by omega)];exact dp.out.2.1
            ·rw[eO _ _ (by omega),eO _ _ (by omega)];exact dp.out.2.2.1
            ·rw[eO _ _ (by omega),eO _ _ (by omega),<-zqS];exact dp.out.2.2.2.1
            ·rw[eO _ _ (by omega),jj,HT.out]
            ·rw[jj,HE.out]
           case measure=>simp[intOf];omega
        ·have Sh:q=os.length:=by omega
         have zw:=(HS.out.below.block _ (ay z6)).trans z6;unfold bI at zw;obtain⟨z0,z1,z2,z3,z4⟩:=dM zw;have fz:∀o,W9.frozen? ⟨w.heap.size+1,o,zc⟩=false:=λ_=>aM _ _ _ _ _ zw
         obtain⟨y0,y1,y2,y3,y4⟩:=cE HS.out.box;obtain⟨⟨a0,p0⟩,e0⟩:=dQ (HS.out.au.own 0 (by omega));obtain⟨⟨a1,p1⟩,e1⟩:=dQ (HS.out.au.own 1 (by omega));obtain⟨⟨a2,p2⟩,e2⟩:=dQ (HS.out.au.own 2 (by omega));obtain⟨⟨a3,p3⟩,e3⟩:=dQ (HS.out.au.own 3 (by omega));rw[e0]at y0;rw[e1]at y2;rw[e2]at y3;rw[e3]at y4;have HFE:zb (aI W6.heap.size 4 (ff W9 (w.heap.size+1) (.slice a0 (ls 0).length p0) (ze .i64 (hd.length:Int)) (.slice a1 (ls 1).length p1) (.slice a2 (ls 2).length p2) (.slice a3 (ls 3).length p3)) v (sE d k)):=((HS.out.au.zCx (by omega)).congr (λ_ _=>rfl) (HmL.out ls dp.out.2.2.1 (by rw[<-Sh];exact dp.out.2.2.2.1) (by rw[<-Sh];exact dp.out.2.2.2.2.1) (by rw[<-Sh];exact dp.out.2.2.2.2.2))).ff (by have:=ay z6;omega) _ _ _ _ _;have Bw:zb (zg w.heap.size w (ff W9 (w.heap.size+1) (.slice a0 (ls 0).length p0) (ze .i64 (hd.length:Int)) (.slice a1 (ls 1).length p1) (.slice a2 (ls 2).length p2) (.slice a3 (ls 3).length p3))):=Ig (FN.out.trans (HS.out.below.mono FN.out.size)) (by omega) _ _ _ _ _;have VB:zb (iF ((aY k (ke d) 256).length:Int) v=#[.slice a0 (ls 0).length p0,ze .i64 (hd.length:Int),.slice a1 (ls 1).length p1,.slice a2 (ls 2).length p2,.slice a3 (ls 3).length p3]):=by
          show _=_;unfold iF;rw[e0,e1,e2,e3,<-HwL.out]
         have hwm:w.heap.size<=W6.heap.size:=FN.out.size;have R9:¬W6.heap.size=w.heap.size+1:=by have:=ay z6;omega
         have zAq:zb _:=HHG.out;clear e0 e1 e2 e3 Sh zw;generalize (ls 0).length=n0 at *;generalize (ls 1).length=n1 at *;generalize (ls 2).length=n2 at *;generalize (ls 3).length=n3 at *;go_wp2;refine aW (v:=zk #[.slice a0 n0 p0,ze .i64 (hd.length:Int),.slice a1 n1 p1,.slice a2 n2 p2,.slice a3 n3 p3]) (by simp[results,results59,go_sem,z0,z1,z2,z3,z4]) rfl ?_;exact⟨k,zAq.out,Hkw.out,W6.heap.size,v,by rw[VB.out],hwm,HFE.out,Bw.out⟩
end
section
variable {w:zj} {D:Array zh} {bv:zh} {os:List Nat} {nb:List Int} {k gN:Nat} {v:Nat->zh} {l:Nat->List Int} {W W':zj}
end
end
section
attribute [local go_sem] Oper.semAt_some
attribute [local go_sem ↓] Zz
end
section
attribute [local go_sem ↓] wp_at_zero wp_at_succ
section
variable {W8 W W':zj} {width:Int} {v:Nat->zh} {ls:Nat->List Int} {keys:List ByteArray} {p9 g9 c9:Nat} {xs:List UInt8}
end
end
section
attribute [local go_sem] Oper.semAt_some
structure zzT(X:zj) where
 W:zj
 h:zg X.heap.size X W
instance zCJ (X:zj):Nonempty (zzT X):=⟨⟨X,Below.refl _ _⟩⟩
def zAz(ats:Array zm)(ty:zm)(args:Array zh):Sem zh:=Builtin.append_ ats ty args
theorem zmq(ty:zm)(args:Array zh):Builtin.append_ #[22,22] ty args=zAz #[22,22] ty args:=rfl
attribute [local go_sem ↓] Zz zmq
attribute [local go_sem] qc
end
section
attribute [local go_sem ↓] wp_at_zero wp_at_succ
theorem zgP{lo:Nat}(cv nv tv ev:zh)(d:aL)(w:zj)(hs:dP lo w cv nv tv ev d)(hB:dH d=false):
  zl prog 59 #[zk #[cv,ze .i64 d.width,nv,tv,ev]] w (Uj w 0 (λ_=>[])):=by
 obtain⟨W0,aw⟩:∃W0,(w.alloc (zi #[cv,ze .i64 d.width,nv,tv,ev] 25)).alloc (zi bI 25)=W0:=⟨_,rfl⟩;have aD:zg w.heap.size w W0:=by rw[<-aw];exact(ax).alloc (by simp) _
 have x0:W0.heap[w.heap.size]?=zd (zi #[cv,ze .i64 d.width,nv,tv,ev] 25 (0,0)):=by
  rw[<-aw];exact(Below.heap_alloc _ _ _ (by simp)).trans (aJ w _)
 have z0:W0.heap[w.heap.size+1]?=zd (zi bI 25 (0,0)):=by
  rw[<-aw];have:=aJ (w.alloc (zi #[cv,ze .i64 d.width,nv,tv,ev] 25)) (zi bI 25)
  simpa using this
 have hT:=S8 cv nv tv ev d _ (hs.below aD);rw[hB]at hT;unfold bI at aw;obtain⟨q0,q1,q2,q3,q4⟩:=dM x0
 go_enter func59,ntmps59
 go_wp2_with fail
 refine hT.mono ?_;rintro e w1 ⟨rfl,aO⟩;have z1:=aT z0 aO;have B1:=aH aD aD.size aO;have fz:∀o,w1.frozen? ⟨w.heap.size+1,o,zc⟩=false:=λ_=>aM _ _ _ _ _ z1
 unfold bI at z1;obtain⟨y0,y1,y2,y3,y4⟩:=dM z1;clear hT x0 z0 aD aO z1 q0 q1 q2 q3 q4 aw;go_wp2;refine aW (v:=zk #[zf zc 0 0,ze .i64 0,zf zc 0 0,zf zc 0 0,zf zc 0 0]) (by simp[results,results59,go_sem,y0,y1,y2,y3,y4]) rfl ?_;exact⟨w.heap.size,λ_=>zf zc 0 0,rfl,aq _,aI.nil _ _ _,Ig B1 (by omega) _ _ _ _ _⟩
section
variable {n:Nat}{os:List Nat}{d:aL}
theorem zpw{st:Nat->Nat->Nat}{an:Nat->Int×Int}{x:Nat}(h:os.Nodup/\∀y∈os,y<n)(hx:x<n):(vH st an os x).Nodup/\∀y∈vH st an os x,y<n:=by
 unfold vH;split
 ·exact h
 ·rename_i hn
  have hm:x∉os:=λhm=>hn (zqA.2 ⟨x,hm,fg.refl _ _ _⟩)
  refine⟨List.nodup_append.2 ⟨h.1,by simp,λa ha b hb=>?_⟩,λy hy=>?_⟩
  ·intro e;subst e;simp at hb;subst hb;exact hm ha
  ·rcases gH.1 hy with hy|hy
   ·exact h.2 y hy
   ·simp at hy;omega
theorem zqp(h:∀y∈os,y<n)(hn:0<n)(k:Nat):os.getD k 0<n:=by
 by_cases hk:k<os.length
 ·rw[bJ,bE hk];exact h _ (gA hk)
 ·rw[bJ,Bo (by omega)];exact hn
theorem zio(hf:eI d)(hn:0<d.tag.length)(k:Nat)(h0:(eX (bH d) (dI d) k 0).Nodup/\∀y∈eX (bH d) (dI d) k 0,y<d.tag.length):∀c,c<=256->(eX (bH d) (dI d) k c).Nodup/\∀y∈eX (bH d) (dI d) k c,y<d.tag.length
 |0,_=>h0
 |c+1,hc=>by
  have ih:=zio hf hn k h0 c (by omega);rw[La];exact zpw ih (hf.stc (zqp ih.2 hn k) (by omega))
theorem Ik(hf:eI d)(hn:0<d.tag.length):∀k,(eX (bH d) (dI d) k 0).Nodup/\∀y∈eX (bH d) (dI d) k 0,y<d.tag.length
 |0=>by rw[Z6];exact⟨by simp,λy hy=>by simp at hy;omega⟩
 |k+1=>by rw[Tx];exact zio hf hn k (Ik hf hn k) 256 (by omega)
open Classical in
noncomputable def CG (d:aL):Nat:=if h:∃K,vh (bH d) (dI d) K/\(eX (bH d) (dI d) K 0).length=K then Classical.choose h else 0
theorem zqQ{K:Nat}(h1:vh (bH d) (dI d) K)(h2:(eX (bH d) (dI d) K 0).length=K):CG d=K:=by
 have h:∃K,vh (bH d) (dI d) K/\(eX (bH d) (dI d) K 0).length=K:=⟨K,h1,h2⟩;unfold CG;rw[dif_pos h];have hc:=Classical.choose_spec h;exact zqt hc.1 hc.2 h1 h2
noncomputable def sD (d:aL):Int:=if dH d=true then ((aY (CG d) (ke d) 256).length:Int) else 0
noncomputable def pY (d:aL):Nat->List Int:=if dH d=true then sE d (CG d) else λ_=>[]
theorem zsS{w w':zj}{e:Ending}(hB:dH d=true)(h:zxT w d e w'):Uj w (sD d) (pY d) e w':=by
 obtain⟨K,h1,h2,h3⟩:=h;unfold sD pY;rw[af hB,af hB,zqQ h1 h2];exact h3
theorem zig{lo:Nat}(cv nv tv ev:zh)(d:aL)(w:zj)(hs:dP lo w cv nv tv ev d):
  zl prog 59 #[zk #[cv,ze .i64 d.width,nv,tv,ev]] w (Uj w (sD d) (pY d)):=by
 cases hB:dH d
 ·unfold sD pY;rw[hB,ab (by decide),ab (by decide)];exact zgP cv nv tv ev d w hs hB
 ·exact(ziG cv nv tv ev d w hs hB).mono λe w' h=>zsS hB h
end
end
end Go.Proofs.YtfajjdgkiilhfaaGreatDoor
