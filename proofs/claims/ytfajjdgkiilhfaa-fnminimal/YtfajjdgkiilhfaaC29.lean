import Derived.Test.YtfajjdgkiilhfaaC5
namespace Go.Proofs.Ytfajjdgkiilhfaa
open Proofs.Try
open RowKit renaming Hid->zh,Below->zy
open Option renaming none->zi,some->zn
open Value renaming int->zp,slice->zx
set_option maxHeartbeats 8000000
set_option maxRecDepth 100000
open Go.RowKit
attribute [local go_sem ↓] wp_at_zero wp_at_succ
attribute [local go_sem ↓] zeH
theorem zhX{lo:Nat}(cv nv tv ev:Value)(d:aE)(w:World)(hs:dk lo w cv nv tv ev d)(hB:dX d=true):
  Calls prog 44 #[.agg #[cv,zp .i64 d.width,nv,tv,ev]] w (Rj w d):=by
 have hf:=Md hB;obtain⟨i0,hi,eQ,eR,dR⟩:=info_parts Try.wP;obtain⟨iS,Aw,AM,AO,AP⟩:=info_parts Try.ZO;replace hs:=hs.low (bH _);have jG:=hf.n1;have fc:=hf.n2;have bT:=hs;obtain⟨⟨ca,cc,rfl,cm,cx⟩,⟨na,nc,rfl,nm,nx⟩,⟨ta,tc,rfl,tm,tx⟩,⟨ea,ec,rfl,em,ex⟩⟩:=bT;obtain⟨tb,jY,rfl,_,tl,tq⟩:=tx (by omega);obtain⟨eb,jS,rfl,_,el,eq⟩:=ex (by have:=hf.fl;omega);generalize hcv:Value.slice ca d.aD.length cc=cv at *;generalize IW:Value.slice na d.next.length nc=nv at *;clear cm nm cx nx tx ex hcv IW;obtain⟨W0,ay⟩:∃W0,(w.alloc (.cells #[cv,zp .i64 d.width,nv,zx (zn ⟨tb,jY,zi⟩) d.tag.length tc,zx (zn ⟨eb,jS,zi⟩) d.fin.length ec] 25)).alloc (.cells bm 25)=W0:=⟨_,rfl⟩;have aG:zy w.heap.size w W0:=by rw[<-ay];exact(aC).alloc (by simp) _
 have x0:W0.heap[w.heap.size]?=zn (.cells #[cv,zp .i64 d.width,nv,zx (zn ⟨tb,jY,zi⟩) d.tag.length tc,zx (zn ⟨eb,jS,zi⟩) d.fin.length ec] 25 (0,0)):=by
  rw[<-ay];exact(Below.heap_alloc _ _ _ (by simp)).trans (aU w _)
 have z0:W0.heap[w.heap.size+1]?=zn (.cells bm 25 (0,0)):=by
  rw[<-ay];have:=aU (w.alloc (.cells #[cv,zp .i64 d.width,nv,zx (zn ⟨tb,jY,zi⟩) d.tag.length tc,zx (zn ⟨eb,jS,zi⟩) d.fin.length ec] 25)) (.cells bm 25)
  simpa using this
 have hT:=TC cv nv _ _ d _ (hs.below aG);rw[hB]at hT;unfold bm at ay;have c0:=bL x0;obtain⟨q0,q1,q2,q3,q4⟩:=c0
 go_enter func44,ntmps44
 go_wp2_with fail
 refine hT.mono ?_;rintro e w1 ⟨rfl,aP⟩;have x1:=aY x0 aP;have z1:=aY z0 aP;have B1:=bi aG aG.size aP;clear q0 q1 q2 q3 q4 hT x0 z0 aG aP;obtain⟨q0,q1,q2,q3,q4⟩:=bL x1;have hL:=zkj cv nv _ _ d w1 (hs.below B1) hf
 go_wp2_with fail
 refine hL.mono ?_;rintro e w2 ⟨g,cap,l,rfl,bV,hR,aL⟩;have x2:=aY x1 aL;have z2:=aY z1 aL;have B2:=bi B1 B1.size aL;clear q0 q1 q2 q3 q4 hL x1 z1;obtain⟨q0,q1,q2,q3,q4⟩:=bL x2;have hlen:=sT _ l hR.nd hR.lt;have hA:=znG cv nv _ _ (zx (zn ⟨g,0,zi⟩) l.length cap) d l w2 (hs.below B2) hf ((zmI bV (by omega)).low (bH _)) hR
 go_wp2_with fail
 refine hA.mono ?_;rintro e w3 ⟨v,gr,m,B,rfl,yu,hM,cN,hm⟩;have x3:=aY x2 cN;have z3:=aY z2 cN;have B3:=bi B2 B2.size cN;have o3:=jy bV cN;clear q0 q1 q2 q3 q4 hA x2 z2 bV;obtain⟨q0,q1,q2,q3,q4⟩:=bL x3;obtain⟨ga,zzz,rfl,hga,zAg,hgo⟩:=hM.outer hR.pos;have HM:zh (∀W,zy w3.heap.size w3 W->iH B W l.length l.length (zx (zn ⟨ga,0,zi⟩) l.length zzz) gr m):=λW h=>hM.below h
 have jU:=uw o3;have HL:zh (∀W,zy w3.heap.size w3 W->∀j,j<l.length->W.cell? ⟨g,j,zi⟩=zn (zp .i64 ((l.getD j 0:Nat):Int))):=λW h j hj=>by rw[h.cell (p:=⟨g,j,zi⟩) jU,o3.cellAt j (by omega),Mh _ hj]
 clear hM hga zAg o3 aL cN hgo ay
 go_wp2_with (refine wpList_make_full _ rfl _ _ 23 rfl w3.heap.size 3 i0 _ 1 underlying23 hi eQ eR _ _ _ _ d.tag.length rfl rfl rfl rfl (by rw[dR];omega) (by unfold maxLen;omega) (ax _) ?_;intro w4 LA OD)
 have bZ:zy w3.heap.size w3 w4:=(Below.refl _ _).grown OD (ax _) (by intro k h;cases h);rw[PZ]at LA;clear OD q0 q1 q2 q3 q4
 go_loopw [43] (λi wr=>∃k:Nat,k<=l.length/\i=zp .i64 k/\zy w3.heap.size w3 wr/\∃zs:List Nat,zh (GH l m zs d.tag.length k)/\wr.ownsRow w3.heap.size 3 1 (zx (zn ⟨w3.heap.size,0,zi⟩) d.tag.length d.tag.length) d.tag.length (iY zs))
  (λi _=>l.length-(intOf i).toNat)
 case atStart=>exact⟨0,bH _,rfl,bZ,_,⟨by simp,λj hj=>absurd hj (dP _)⟩,LA⟩
 case round=>
  clear LA bZ;obtain⟨k,hk,rfl,cO,zs,HC,bV⟩:=hrel;obtain⟨W5,gL⟩:∃W5,W5=wr:=⟨_,rfl⟩;subst gL
  by_cases hlt:k<l.length
  ·have cG:(k:Int)<(l.length:Int):=by omega
   have c0:=HL.out _ cO k hlt;have KP:=HM.out _ cO;have o5:=KP.Tl hlt;have Hc5:zh (∀q,q<l.length->W5.cell? ⟨gr k,q,zi⟩=zn (.bool (m k q))):=λq hq=>(KP.cell hlt hq).1
   have tH:zh (m k k=false):=(hm k k hlt hlt).2 (cD.refl _ _ _);have wI:=hR.lt _ (kO hlt);have Vj:zh (∀q,q<l.length->m k q=false->(∀j,j<q->m k j=true)->GH l m (zs.set (l.getD k 0) (l.getD q 0)) d.tag.length (k+1)):=λq a b c=>HC.out.next hR.nd hlt wI a b c
   have zR:zh (∀s1:Nat,(W5.setCell ⟨w3.heap.size,l.getD k 0,zi⟩ (zp .i64 (s1:Int))).ownsRow w3.heap.size 3 1 (zx (zn ⟨w3.heap.size,0,zi⟩) d.tag.length d.tag.length) d.tag.length (iY (zs.set (l.getD k 0) s1))):=λs1=>by
    have hst:=(bV.stored (l.getD k 0) (zp .i64 (s1:Int))).1;rw[zji]at hst;exact hst
   obtain⟨u0,d0⟩:=PW bV (j:=l.getD k 0) (by omega);have f0:=bV.frozenAt (l.getD k 0);have oy:((l.getD k 0:Nat):Int)<(d.tag.length:Int):=by omega
   clear KP;generalize l.getD k 0=s0 at *;go_wp2
   go_loopw [8] (λi wr=>∃q:Nat,q<=k/\i=zp .i64 q/\wr=W5/\zh (∀j,j<q->m k j=true))
    (λi _=>l.length-(intOf i).toNat)
   case atStart=>exact⟨0,bH _,rfl,rfl,λj hj=>absurd hj (dP _)⟩
   case round=>
    obtain⟨q,hq,rfl,rfl,HJ⟩:=hrel;have c1:=Hc5.out q (by omega);have fA:(q:Int)<(l.length:Int):=by omega
    cases OO:m k q
    ·rw[OO]at c1;have c2:=HL.out _ cO q (by omega);have HN:zh _:=Vj.out q (by omega) OO HJ.out;generalize l.getD q 0=s1 at *;go_wp2
     go_roundw
     case rel=>exact⟨k+1,by omega,by go_num,cO.setCell (ax _) _,_,HN,zR.out _⟩
     case measure=>simp[intOf];omega
    ·rw[OO]at c1;have hqk:q≠k:=λe=>by subst e;have:=tH.out;rw[OO]at this;cases this
     go_wp2
     go_roundw
     case rel=>exact⟨q+1,by omega,by go_num,by first|exact rfl|trivial,λj hj=>by
      by_cases e:j=q
      ·subst e;exact OO
      ·exact HJ.out j (by omega)⟩
     case measure=>simp[intOf];omega
  ·have cI:k=l.length:=by omega
   subst cI;have Xp:CB d l (λs=>zs.getD s 0):=HC.out.zzC hm;have Bp:zh (zy w.heap.size w W5):=bi B3 B3.size cO;have x5:=aY x3 cO;have z5:=aY z3 cO;have Jg:zs.length=d.tag.length:=HC.out.1;have Wp:zh (∀W,zy W5.heap.size W5 W->∀j,j<d.tag.length->W.cell? ⟨w3.heap.size,j,zi⟩=zn (zp .i64 ((zs.getD j 0:Nat):Int))):=λW h j hj=>by
    have h1:=uw bV;rw[h.cell (p:=⟨w3.heap.size,j,zi⟩) h1,bV.cellAt j (by omega),Mh _ (by omega)]
   have UW:zh _:=Xp;have HR:zh (uM d l):=hR;have HF:zh (cL d):=hf;have eF:zh (dk 0 w _ _ _ _ d):=hs;obtain⟨gt,iV⟩:∃gt,W5.heap.size=gt+1:=⟨W5.heap.size-1,by have:=uw bV;omega⟩;have HO0:zh _:=og.start (d:=d) (x:=zs.getD 0 0) iV;have oa:zh _:=qp.start Xp hR;have cz:=Wp.out _ (Below.refl _ _) 0 (by omega);have Htx:zh _:=tq;have Hfx:zh _:=eq;have G9:zh _:=iV;clear Xp HC hR hf hs B1 B2 B3 x3 z3 cO bV Jg HM HL hm tq eq hB yu iV;generalize zs.getD 0 0=ch0 at *;go_wp2
   go_loopw [9,10,11] (λov rv i wr=>∃(k g1 c1 g2 c2:Nat) (v:Nat->Value) (ls:Nat->List Int) (os:List Nat),i=zp .i64 k/\ov=zx (zn ⟨g1,0,zi⟩) os.length c1/\rv=zx (zn ⟨g2,0,zi⟩) k c2/\zh (v 0=zx (zn ⟨g1,0,zi⟩) os.length c1)/\zh (og d W5 gt wr k (zx (zn ⟨g2,0,zi⟩) k c2) v ls os (k+1))/\zh (qp d l (λs=>zs.getD s 0) os k 0/\qd (ai d) (au d) k))
    (λ_ _ i _=>d.tag.length-(intOf i).toNat)
   case atStart=>exact⟨0,W5.heap.size,1,W5.heap.size+1,0,(λ_=>zx (zn ⟨W5.heap.size,0,zi⟩) 1 1),(λ_=>[(ch0:Int)]),[ch0],rfl,rfl,rfl,rfl,HO0.out,oa.out,λj hj=>absurd hj (dP _)⟩
   case round=>
    clear HO0 oa cz;obtain⟨k,g1,c1,g2,c2,v,ls,os,rfl,rfl,rfl,Wn,HO,HI⟩:=hrel;obtain⟨W6,lJ⟩:∃W6,W6=wr:=⟨_,rfl⟩;subst lJ;have Lz:=HI.out.1.len HR.out
    by_cases hk:k<os.length
    ·have SE:(k:Int)<(os.length:Int):=by omega
     have EC:zh _:=HO.out.new (by omega);have HG:zh (qd (ai d) (au d) (k+1)):=HI.out.2.next (by rw[<-HI.out.1.al.length];exact hk);go_wp2
     go_loopw [9,12,13] (λov rw i wr=>∃(c g1 c1 g3 c3:Nat) (v:Nat->Value) (ls:Nat->List Int) (os:List Nat),c<=256/\k<os.length/\i=zp .i64 c/\ov=zx (zn ⟨g1,0,zi⟩) os.length c1/\rw=zx (zn ⟨g3,0,zi⟩) c c3/\zh (v 0=zx (zn ⟨g1,0,zi⟩) os.length c1/\v (k+1)=zx (zn ⟨g3,0,zi⟩) c c3/\ls (k+1)=wV d k c)/\zh (og d W5 gt wr k (zx (zn ⟨g2,0,zi⟩) k c2) v ls os (k+2))/\zh (qp d l (λs=>zs.getD s 0) os k c))
      (λ_ _ i _=>256-(intOf i).toNat)
     case atStart=>exact⟨0,g1,c1,_,_,_,_,os,bH _,hk,rfl,rfl,rfl,⟨by rw[bW _ _ (by omega)];exact Wn.out,fN _ _ _,ez _ _ _⟩,EC.out,HI.out.1⟩
     case round=>
      clear EC Lz SE hk Wn HO;obtain⟨c,g1,c1,g3,c3,v,ls,os,hc,hk,rfl,rfl,rfl,bS,HO,eP⟩:=hrel;obtain⟨W7,Ya⟩:∃W7,W7=wr:=⟨_,rfl⟩;subst Ya
      by_cases dN:c<256
      ·have hi8:(c:Int)<256:=by omega
       have hi7:(k:Int)<(os.length:Int):=by omega
       have Lz:=eP.out.len HR.out;obtain⟨t1,t2,t3,t4⟩:=eP.out.to UW.out HR.out hk dN;have lQ:=HR.out.lt _ (eP.out.can _ (kO hk)).1;have AJ:=HR.out.lt _ t1;have nL:=HR.out.lt _ t2;have hB7:zy w.heap.size w W7:=Bp.out.trans (HO.out.below.mono (by have:=Bp.out.size;rw[G9.out]at this;exact this));have Sk:zy W5.heap.size W5 W7:=HO.out.below.mono (by rw[G9.out];exact ax _);have hgo:∀W,zy W7.heap.size W7 W->Calls prog 61 #[.agg #[cv,zp .i64 d.width,nv,zx (zn ⟨tb,jY,zi⟩) d.tag.length tc,zx (zn ⟨eb,jS,zi⟩) d.fin.length ec],zp .i64 ((os.getD k 0:Nat):Int),zp .i64 (c:Int)] W λe w'=>e=.returned (zp .i64 ((ai d (os.getD k 0) c:Nat):Int))/\zy W.heap.size W w':=λW hW=>zqX _ _ _ _ d _ c _ _ rfl W ((eF.out.below hB7).below hW) HF.out lQ dN rfl
       have Hgo:zh _:=hgo;have rz:=HO.out.aq.own 0 (by omega);rw[bS.out.1,HO.out.l0]at rz;obtain⟨g1',Ky,e1,_,SB,hoc⟩:=pC rz (by rw[cW];omega);rw[cW]at e1;cases e1;have x7:=Sk.block _ (az x5) |>.trans x5
       have HH:zh (∀W,zy W7.heap.size W7 W->W.cell? ⟨w.heap.size,0,zi⟩=zn cv/\W.cell? ⟨w.heap.size,1,zi⟩=zn (zp .i64 d.width)/\W.cell? ⟨w.heap.size,2,zi⟩=zn nv/\W.cell? ⟨w.heap.size,3,zi⟩=zn (zx (zn ⟨tb,jY,zi⟩) d.tag.length tc)/\W.cell? ⟨w.heap.size,4,zi⟩=zn (zx (zn ⟨eb,jS,zi⟩) d.fin.length ec)/\W.cell? ⟨g1,k,zi⟩=zn (zp .i64 ((os.getD k 0:Nat):Int))/\W.cell? ⟨w3.heap.size,ai d (os.getD k 0) c,zi⟩=zn (zp .i64 ((zs.getD (ai d (os.getD k 0) c) 0:Nat):Int))):=λW hW=>by
        obtain⟨q0,q1,q2,q3,q4⟩:=bL (aY x7 hW);refine⟨q0,q1,q2,q3,q4,?_,Wp.out W (Sk.trans (hW.mono Sk.size)) _ AJ⟩;rw[hW.cell (p:=⟨g1,k,zi⟩) SB,hoc k (by rw[cW];exact hk),uu]
       have Bv:zh _:=λh=>eP.out.old UW.out HR.out hk dN h
       have uK:zh _:=λh=>eP.out.new UW.out HR.out hk dN h
       have SF:((ai d (os.getD k 0) c:Nat):Int)<(d.tag.length:Int):=by omega
       generalize O6:ai d (os.getD k 0) c=ta at *;generalize hza:zs.getD ta 0=za at *;generalize Zq:os.getD k 0=so at *;clear O6 hza Zq t1 t2 t3 t4 hoc rz x7;go_wp2
       go_region_held3 (λw'=>w'.cell? ⟨w.heap.size,0,zi⟩=zn cv/\w'.cell? ⟨w.heap.size,1,zi⟩=zn (zp .i64 d.width)/\w'.cell? ⟨w.heap.size,2,zi⟩=zn nv/\w'.cell? ⟨w.heap.size,3,zi⟩=zn (zx (zn ⟨tb,jY,zi⟩) d.tag.length tc)/\w'.cell? ⟨w.heap.size,4,zi⟩=zn (zx (zn ⟨eb,jS,zi⟩) d.fin.length ec)/\w'.cell? ⟨g1,k,zi⟩=zn (zp .i64 (so:Int))/\w'.cell? ⟨w3.heap.size,ta,zi⟩=zn (zp .i64 (za:Int))) ((first|exact HH.out _ (Below.refl _ _)|exact HH.out _ (Below.refl _ _).drew|exact HH.out _ ((Below.refl _ _).drew.trans fU))) ((go_at_call 61;refine(Hgo.out _ (Below.refl _ _).drew).mono ?_;rintro e w8 ⟨rfl,fU⟩))
       have zwN:zy W7.heap.size W7 w8:=(Below.refl _ _).drew.trans fU;have ED:zh _:=HO.out.on zwN;have YX:=ED.out.aq.own 0 (by omega);rw[bS.out.1,ED.out.l0]at YX;have dz:=PN _ (aO os) (za:Int) w8 (YX.at (by rw[cW];omega));have S7:=ED.out.size;have VP:zh _:=ED.out.l0;have VK:zh _:=ED.out.aq;clear hgo zwN fU YX SB hB7 Sk Hgo HH eP;generalize hpu:lg (aO os) (za:Int)=pu at *;clear hpu
       by_cases hp:pu<0
       ·have MT:zh _:=(uK.out hp).1;have Hp9:zh _:=(uK.out hp).2;clear Bv uK
        go_wp2_with fail
        refine dz.mono ?_;rintro e w' ⟨rfl,hw'⟩;subst w'
        go_wp2_with (at_builtin;refine jw VK.out _ rfl rfl (.tmp 95) (.tmp 97) rfl 0 (by omega) (aO os) VP.out os.length (cW _) (by exact bS.out.1.symm) (za:Int) rfl (by omega) S7 ?_;intro g4 c4 w9 E6 IE)
        have Vl:zh _:=ED.out.grow (by omega) (.inl rfl) E6 IE (os':=os++[za]) (by rw[ez];simp[aO]);have OS:=E6.own 0 (by omega);rw[fN,ez]at OS;have zxN:=PN _ _ (za:Int) w9 (OS.at (by simp[aO];omega));have e9:lg (aO os++[(za:Int)]) (za:Int)=(aN d k c:Int):=by have:=Hp9.out;simpa [aO,aN]using this
        rw[e9]at zxN;have Zl:=Vl.out.size;have Hf9:zh _:=Vl.out.aq;have Hv9:zh (Value.slice (zn ⟨g3,0,zi⟩) c c3=upd v 0 (zx (zn ⟨g4,0,zi⟩) (os.length+1) c4) (k+1)):=by
         show _=_;rw[bW _ _ (by omega)];exact bS.out.2.1.symm
        have Hl9:zh (bq ls 0 (aO os++[(za:Int)]) (k+1)=wV d k c):=by
         show _=_;rw[a8 _ _ (by omega)];exact bS.out.2.2
        clear E6 IE OS e9 dz VK ED VP;generalize hrc:(aN d k c:Int)=rc at *;have VY:zh _:=hrc;clear hrc;refine zxN.mono ?_;rintro e w' ⟨rfl,hw'⟩;subst w'
        go_wp2_with (at_builtin;refine jw Hf9.out _ rfl rfl (.tmp 99) (.tmp 103) rfl (k+1) (by omega) (wV d k c) Hl9.out c (P6 _ _ _) (by exact Hv9.out) rc rfl (by omega) Zl ?_;intro g5 c5 eU sq sC)
        have Vk:zh _:=Vl.out.grow (i:=k+1) (by omega) (.inr (by omega)) sq sC (os':=os++[za]) (by rw[a8 _ _ (by omega),ez];simp[aO])
        go_roundw
        case rel=>
         refine⟨c+1,g4,c4,g5,c5,_,_,os++[za],by omega,by simp;omega,by go_num,by simp,rfl,⟨?_,fN _ _ _,?_⟩,Vk.out,MT.out⟩
         ·rw[bW _ _ (by omega),fN];simp
         ·rw[ez,zkL,<-VY.out]
        case measure=>simp[intOf];omega
       ·have MT:zh _:=(Bv.out (by omega)).1;have VY:zh ((aN d k c:Int)=pu):=(Bv.out (by omega)).2.symm;clear Bv uK
        go_wp2_with fail
        refine dz.mono ?_;rintro e w' ⟨rfl,hw'⟩;subst w'
        go_wp2_with fail
        refine dz.mono ?_;rintro e w' ⟨rfl,hw'⟩;subst w'
        go_wp2_with (at_builtin;refine jw VK.out _ rfl rfl (.tmp 99) (.tmp 103) rfl (k+1) (by omega) (wV d k c) bS.out.2.2 c (P6 _ _ _) (by exact bS.out.2.1.symm) pu rfl (by omega) S7 ?_;intro g5 c5 eU sq sC)
        have Vk:zh _:=ED.out.grow (i:=k+1) (by omega) (.inr (by omega)) sq sC (os':=os) (by rw[a8 _ _ (by omega)];exact VP.out)
        go_roundw
        case rel=>
         refine⟨c+1,g1,c1,g5,c5,_,_,os,by omega,hk,by go_num,rfl,rfl,⟨?_,fN _ _ _,?_⟩,Vk.out,MT.out⟩
         ·rw[bW _ _ (by omega)];exact bS.out.1
         ·rw[ez,zkL,<-VY.out]
        case measure=>simp[intOf];omega
      ·have hcc:c=256:=by omega
       subst hcc;have Lz:=eP.out.len HR.out;have Zk:=HO.out.size;have CR:zh _:=HO.out.out
       go_wp2_with (at_builtin;refine AZ W7 _ rfl rfl (.tmp 105) (.tmp 107) 64 rfl (gt+1) 23 iS (zx zi 0 0) 24 underlying64 Aw AM AO AP rfl g2 c2 k (Ei v k) (zx (zn ⟨g3,0,zi⟩) 256 c3) rfl CR.out rfl rfl (by omega) (by omega) Zk ?_;intro g4 c4 w9 OS zAs zB8)
       go_roundw
       case rel=>exact⟨k+1,g1,c1,g4,c4,v,ls,os,by go_num,rfl,rfl,bS.out.1,HO.out.more bS.out.2.2 zAs (by rw[bS.out.2.1];exact OS),eP.out.row rfl,HG.out⟩
       case measure=>simp[intOf];omega
    ·have cY:k=os.length:=by
      have:=zi1 HI.out.2;rw[<-HI.out.1.al.length]at this;omega
     have Hkw:zh ((aF (ai d) (au d) k 0).length=k):=by
      show _=_;rw[<-HI.out.1.al.length];exact cY.symm
     obtain⟨R,XO⟩:∃R,R=aN d:=⟨_,rfl⟩;have zM:zh _:=XO;have HRw:zh (∀W,zy W6.heap.size W6 W->∀x,x<k->∃gx cx,W.cell? ⟨g2,x,zi⟩=zn (zx (zn ⟨gx,0,zi⟩) 256 cx)/\∀c,c<256->W.cell? ⟨gx,c,zi⟩=zn (zp .i64 ((R x c:Nat):Int))):=by
      rw[XO];exact HO.out.cells (by omega)
     have VW:zh (∀W,zy W6.heap.size W6 W->∀j,j<os.length->W.cell? ⟨g1,j,zi⟩=zn (zp .i64 ((os.getD j 0:Nat):Int))):=λW hW j hj=>by
      have ho:=HO.out.aq.own 0 (by omega);rw[Wn.out,HO.out.l0]at ho;obtain⟨g',c',e1,_,oA,hc⟩:=pC ho (by rw[cW];omega);rw[cW]at e1;cases e1;rw[hW.cell (p:=⟨g1,j,zi⟩) oA,hc j (by rw[cW];exact hj),uu]
     have E3:zy w.heap.size w W6:=Bp.out.trans (HO.out.below.mono (by have:=Bp.out.size;rw[G9.out]at this;exact this));have XZ:zy W5.heap.size W5 W6:=HO.out.below.mono (by rw[G9.out];exact ax _);have x6:=(XZ.block _ (az x5)).trans x5;have z6:=(XZ.block _ (az z5)).trans z5;have lG:zh _:=lI.start (W8:=W6);have GN:zh _:=E3;have HHk:zh (k=os.length):=cY;have mf:k<=4000:=by omega
     clear XO cY E3 XZ x5 z5 HO Wp G9;unfold bm at lG;go_wp2
     go_loopw [16,17] (λhv i wr=>∃(c g4 c4:Nat) (v:Nat->Value) (ls:Nat->List Int),c<=256/\i=zp .i64 c/\hv=zx (zn ⟨g4,0,zi⟩) (aM k R c).length c4/\zh (v 4=zx (zn ⟨g4,0,zi⟩) (aM k R c).length c4/\ls 4=aO (aM k R c)/\ls 0=(List.range c).map (λc=>(da k R c:Int))/\ls 1=[]/\ls 2=[]/\ls 3=[])/\zh (lI W6 W6.heap.size wr 0 v ls))
      (λ_ i _=>256-(intOf i).toNat)
     case atStart=>exact⟨0,_,_,_,_,bH _,rfl,rfl,⟨fN _ _ _,ez _ _ _,rfl,rfl,rfl,rfl⟩,lG.out⟩
     case round=>
      clear lG;obtain⟨c,g4,c4,v,ls,hc,rfl,rfl,bS,HS⟩:=hrel;obtain⟨W9,Df⟩:∃W9,W9=wr:=⟨_,rfl⟩;subst Df
      by_cases dN:c<256
      ·have hi8:(c:Int)<256:=by omega
       have Dm:=D9 k R c;have Kg:zh (∀W,zy W9.heap.size W9 W->∀j,j<(aM k R c).length->W.cell? ⟨g4,j,zi⟩=zn (zp .i64 (((aM k R c).getD j 0:Nat):Int))):=λW hW j hj=>by
        have ho:=HS.out.aq.own 4 (by omega);rw[bS.out.1,bS.out.2.1]at ho;obtain⟨g',c',e1,_,oA,hcc⟩:=pC ho (by rw[cW];omega);rw[cW]at e1;cases e1;rw[hW.cell (p:=⟨g4,j,zi⟩) oA,hcc j (by rw[cW];exact hj),uu]
       have H69:zh (zy W6.heap.size W6 W9):=HS.out.below;have zv5:zh (∀j,j<(aM k R c).length->je k R ((aM k R c).getD j 0) c=true->wb k R c (j+1)=j):=λj h1 h2=>zqt h1 h2
       have Bu:zh (∀j,j<(aM k R c).length->je k R ((aM k R c).getD j 0) c=false->wb k R c (j+1)=wb k R c j):=λj h1 h2=>zsd h1 h2
       have EE:zh (∀j,j<(aM k R c).length->(aM k R c).getD j 0<c):=λj hj=>zd k R c _ (kO hj)
       have zyZ:zh (wb k R c 0=-1):=by show _=_;unfold wb;rw[ab (by omega)]
       have VE:zh (wb k R c (aM k R c).length=if da k R c<(aM k R c).length then (da k R c:Int) else -1):=rfl;have VF:zh (da k R c<=(aM k R c).length):=JR;have CS:zh _:=sR k R c;obtain⟨hd,Fy⟩:∃hd,aM k R c=hd:=⟨_,rfl⟩;obtain⟨cf,pN⟩:∃cf,da k R c=cf:=⟨_,rfl⟩;obtain⟨cV,hcV⟩:∃cV:Nat->Int,(λj=>wb k R c j)=cV:=⟨_,rfl⟩;have Nk:zh (∀j,wb k R c j=cV j):=λj=>congrFun hcV j
       rw[Fy]at Kg zv5 Bu EE VE VF CS bS Dm ⊢;rw[pN]at VE VF CS;have Hcf:zh _:=pN;have Hhh:zh _:=Fy;clear Fy pN hcV;go_wp2
       go_loopw [18,117] (λcv i wr=>∃j:Nat,j<=hd.length/\i=zp .i64 j/\cv=zp .i64 (cV j)/\zy W9.heap.size W9 wr)
        (λ_ i _=>hd.length-(intOf i).toNat)
       case atStart=>exact⟨0,bH _,rfl,by rw[<-Nk.out,zyZ.out],Below.refl _ _⟩
       case round=>
        obtain⟨j,hj,rfl,rfl,Dj⟩:=hrel;obtain⟨Wt,zzW⟩:∃Wt,Wt=wr:=⟨_,rfl⟩;subst zzW
        by_cases e8:j<hd.length
        ·have SF:(j:Int)<(hd.length:Int):=by omega
         have c0:=Kg.out _ Dj j e8;have hlt:=EE.out j e8;have Hy:zh _:=zv5.out j e8;have Hn:zh _:=Bu.out j e8;generalize hd.getD j 0=h at *;go_wp2
         go_loopw [21,124] (λsv i wr=>∃x:Nat,x<=k/\i=zp .i64 x/\sv=.bool (je x R h c)/\zy W9.heap.size W9 wr)
          (λ_ i _=>k-(intOf i).toNat)
         case atStart=>exact⟨0,bH _,rfl,rfl,Dj⟩
         case round=>
          obtain⟨x,hx,rfl,rfl,Di⟩:=hrel
          by_cases mR:x<k
          ·have YK:(x:Int)<(k:Int):=by omega
           obtain⟨gx,cx,o1,Lh⟩:=HRw.out wr (H69.out.trans (Di.mono H69.out.size)) x mR;have a1:=Lh h (by omega);have a2:=Lh c dN;have hh2:(h:Int)<256:=by omega
           have HX:zh (je (x+1) R h c=(je x R h c&&(R x h==R x c))):=znn x R h c;clear Lh;generalize R x h=r1 at *;generalize R x c=r2 at *
           by_cases hr:r1=r2
           ·have iX:((r1:Int) != (r2:Int))=false:=by simp[hr]
            go_wp2
            go_quiet (fail)
            go_wp2
            go_roundw
            case rel=>exact⟨x+1,by omega,by go_num,by rw[HX.out];simp[hr],below_drewN Di _⟩
            case measure=>simp[intOf];omega
           ·have iX:((r1:Int) != (r2:Int))=true:=by simp;omega
            go_wp2
            go_quiet (fail)
            go_wp2
            go_roundw
            case rel=>exact⟨x+1,by omega,by go_num,by rw[HX.out];simp[hr],below_drewN Di _⟩
            case measure=>simp[intOf];omega
          ·have wN:x=k:=by omega
           subst wN;cases hce:je x R h c
           ·have HE:zh _:=Hn.out hce;go_wp2
            go_roundw
            case rel=>exact⟨j+1,by omega,by go_num,by rw[<-Nk.out,<-Nk.out,HE.out],Di⟩
            case measure=>simp[intOf];omega
           ·have HE:zh _:=Hy.out hce;go_wp2
            go_roundw
            case rel=>exact⟨j+1,by omega,by go_num,by rw[<-Nk.out,HE.out],Di⟩
            case measure=>simp[intOf];omega
        ·have me:j=hd.length:=by omega
         subst me;have fj:zh _:=HS.out.on Dj;have bT:=fj.out.size;obtain⟨y0,y1,y2,y3,y4⟩:=cE fj.out.box;have Nn:zh _:=fj.out.aq;obtain⟨⟨a0,p0⟩,e0⟩:=cJ (fj.out.aq.own 0 (by omega));rw[bS.out.2.2.1]at e0;simp only[jK,El]at e0;rw[e0]at y0;have kx:zh _:=e0;have hce:=VE.out;rw[Nk.out]at hce;have BU:∀o,o=W6.heap.size->o=W6.heap.size:=λ_ h=>h
         clear e0 BU y1 y2 y3 y4
         by_cases bn:cf<hd.length
         ·rw[ae bn]at hce;rw[hce];clear hce
          go_wp2_with (at_builtin;refine jw Nn.out _ rfl rfl (.tmp 150) (.tmp 152) rfl 0 (by omega) ((List.range c).map (λc=>(da k R c:Int))) bS.out.2.2.1 c (by simp) (by exact kx.out.symm) (cf:Int) rfl (by omega) bT ?_;intro g5 c5 eU sq sC;obtain⟨BH,zI⟩:=fj.out.field (i:=0) (by omega) sq sC;have F8:=(cE BH).1;rw[kx.out]at F8;have f10:=aR _ _ 0 _ _ BH)
          go_roundw
          case rel=>
           have eh:aM k R (c+1)=hd:=by rw[CS.out,ae bn]
           refine⟨c+1,g4,c4,_,_,by omega,by go_num,by rw[eh],⟨by rw[eh,bW _ _ (by omega)];exact bS.out.1,by rw[eh,a8 _ _ (by omega)];exact bS.out.2.1,?_,?_,?_,?_⟩,zI⟩
           ·rw[ez,oN,rR];simp[Hcf.out]
           ·rw[a8 _ _ (by omega)];exact bS.out.2.2.2.1
           ·rw[a8 _ _ (by omega)];exact bS.out.2.2.2.2.1
           ·rw[a8 _ _ (by omega)];exact bS.out.2.2.2.2.2
          case measure=>simp[intOf];omega
         ·rw[ab bn]at hce;rw[hce];have zwY:cf=hd.length:=by have:=VF.out;omega
          have zyY:zh _:=zwY;clear hce zwY y0
          go_wp2_with (first|(at_builtin;refine jw Nn.out _ rfl rfl (.tmp 145) (.tmp 147) rfl 4 (by omega) (aO hd) bS.out.2.1 hd.length (cW _) (by exact bS.out.1.symm) (c:Int) rfl (by omega) bT ?_;intro g5 c5 eU sq sC;have fS:zh _:=fj.out.heads sq sC;have rB:=fS.out.size;have F8:=(cE fS.out.box).1;rw[bW _ _ (by omega),kx.out]at F8;have Hf2:zh _:=fS.out.aq;clear sq sC)|(at_builtin;refine jw Hf2.out _ rfl rfl (.tmp 150) (.tmp 152) rfl 0 (by omega) ((List.range c).map (λc=>(da k R c:Int))) (by rw[a8 _ _ (by omega)];exact bS.out.2.2.1) c (by simp) (by rw[bW _ _ (by omega)];exact kx.out.symm) (hd.length:Int) rfl (by omega) rB ?_;intro g6 c6 w11 zzP zAe;obtain⟨zwj,zyH⟩:=fS.out.field (i:=0) (by omega) zzP zAe;have y11:=(cE zwj).1;rw[bW _ _ (by omega),kx.out]at y11;have f11:=aR _ _ 0 _ _ zwj))
          go_roundw
          case rel=>
           have eh:aM k R (c+1)=hd++[c]:=by rw[CS.out,ab bn]
           refine⟨c+1,g5,c5,_,_,by omega,by go_num,by rw[eh];simp,⟨?_,?_,?_,?_,?_,?_⟩,zyH⟩
           ·rw[eh,bW _ _ (by omega),fN];simp
           ·rw[eh,a8 _ _ (by omega),ez];simp[aO]
           ·rw[ez,oN,rR];simp[Hcf.out,zyY.out]
           ·rw[a8 _ _ (by omega),a8 _ _ (by omega)];exact bS.out.2.2.2.1
           ·rw[a8 _ _ (by omega),a8 _ _ (by omega)];exact bS.out.2.2.2.2.1
           ·rw[a8 _ _ (by omega),a8 _ _ (by omega)];exact bS.out.2.2.2.2.2
          case measure=>simp[intOf];omega
      ·have hcc:c=256:=by omega
       have Nl:zh (c=256):=hcc;clear hcc;have Dm:=D9 k R c;have HSw:zh _:=HS.out.width ((aM k R c).length:Int);obtain⟨y0,y1,y2,y3,y4⟩:=cE HS.out.box;have f1:=aR _ _ 1 _ _ HS.out.box;have HmL:zh (∀dp:Nat->List Int,dp 0=(List.range c).map (λc=>(da k R c:Int))->dp 1=zk R (aM k R c) os.length->dp 2=(os.take os.length).map (λs=>d.tag.getD s 0)->dp 3=(os.take os.length).map (λs=>d.fin.getD s 0)->∀i,i<4->dp i=dG d k i):=λdp h0 h1 h2 h3 i hi=>by
        rw[th]at h2 h3;have ha:=HI.out.1.al.answers
        match i,hi with
        |0,_=>rw[h0,zM.out,Nl.out];rfl
        |1,_=>rw[h1,zM.out,<-HHk.out,Nl.out];rfl
        |2,_=>rw[h2,ha.1];rfl
        |3,_=>rw[h3,ha.2];rfl
       have HwL:zh ((aM k R c).length=(aM k (aN d) 256).length):=by show _=_;rw[zM.out,Nl.out]
       have EE:zh (∀j,j<(aM k R c).length->(aM k R c).getD j 0<256):=λj hj=>by have:=zd k R c _ (kO hj);omega
       have Nr:zh (∀q,q<os.length->os.getD q 0<d.tag.length):=λq hq=>HR.out.lt _ (HI.out.1.can _ (kO hq)).1
       have Hot:zh (∀W,zy W6.heap.size W6 W->∀s,s<d.tag.length->W.cell? ⟨tb,jY+s,zi⟩=zn (zp .i64 (d.tag.getD s 0))/\W.cell? ⟨eb,jS+s,zi⟩=zn (zp .i64 (d.fin.getD s 0))):=λW hW s hs=>by
        have BP:=GN.out.trans (hW.mono GN.out.size);exact⟨by rw[BP.cell (p:=⟨tb,jY+s,zi⟩) tl];exact Htx.out s hs,by rw[BP.cell (p:=⟨eb,jS+s,zi⟩) el];exact Hfx.out s (by have:=HF.out.fl;omega)⟩
       have HfL:zh (d.fin.length=d.tag.length):=HF.out.fl;have HHG:zh _:=HI.out.2;generalize aM k R c=hd at *;clear jG;go_wp2
       go_loopw [160] (λi wr=>∃(q:Nat) (v:Nat->Value) (ls:Nat->List Int),q<=os.length/\i=zp .i64 q/\zh (v 4=zx (zn ⟨g4,0,zi⟩) hd.length c4/\ls 4=aO hd/\ls 0=(List.range c).map (λc=>(da k R c:Int))/\ls 1=zk R hd q/\ls 2=(os.take q).map (λs=>d.tag.getD s 0)/\ls 3=(os.take q).map (λs=>d.fin.getD s 0))/\zh (lI W6 W6.heap.size wr (hd.length:Int) v ls))
        (λi _=>os.length-(intOf i).toNat)
       case atStart=>exact⟨0,v,ls,bH _,rfl,⟨bS.out.1,bS.out.2.1,bS.out.2.2.1,by rw[bS.out.2.2.2.1];rfl,by rw[bS.out.2.2.2.2.1];rfl,by rw[bS.out.2.2.2.2.2];rfl⟩,HSw.out⟩
       case round=>
        clear HSw bS HS y0 y1 y2 y3 y4 f1;obtain⟨q,v,ls,hq,rfl,bS,HS⟩:=hrel;obtain⟨W9,Df⟩:∃W9,W9=wr:=⟨_,rfl⟩;subst Df
        by_cases im:q<os.length
        ·have SF:(q:Int)<(os.length:Int):=by omega
         have hik:(q:Int)<(k:Int):=by have:=HHk.out;omega
         have hqk:q<k:=by omega
         have c0:=VW.out _ HS.out.below q im;have Zq:=Nr.out q im;have HT:zh _:=T5 (λs=>d.tag.getD s 0) os im;have HE:zh _:=T5 (λs=>d.fin.getD s 0) os im;have VG:zh (∀W,zy W6.heap.size W6 W->W.cell? ⟨tb,jY+os.getD q 0,zi⟩=zn (zp .i64 (d.tag.getD (os.getD q 0) 0))/\W.cell? ⟨eb,jS+os.getD q 0,zi⟩=zn (zp .i64 (d.fin.getD (os.getD q 0) 0))):=λW hW=>Hot.out W hW _ Zq
         have hif:((os.getD q 0:Nat):Int)<(d.fin.length:Int):=by have:=HfL.out;omega
         have YI:((os.getD q 0:Nat):Int)<(d.tag.length:Int):=by omega
         generalize d.tag.getD (os.getD q 0) 0=t1 at *;generalize d.fin.getD (os.getD q 0) 0=t2 at *;generalize os.getD q 0=so at *;go_wp2
         go_loopw [167] (λi wr=>∃(j:Nat) (v:Nat->Value) (ls:Nat->List Int),j<=hd.length/\i=zp .i64 j/\zh (v 4=zx (zn ⟨g4,0,zi⟩) hd.length c4/\ls 4=aO hd/\ls 0=(List.range c).map (λc=>(da k R c:Int))/\ls 1=uy R hd q j/\ls 2=(os.take q).map (λs=>d.tag.getD s 0)/\ls 3=(os.take q).map (λs=>d.fin.getD s 0))/\zh (lI W6 W6.heap.size wr (hd.length:Int) v ls))
          (λi _=>hd.length-(intOf i).toNat)
         case atStart=>exact⟨0,v,ls,bH _,rfl,⟨bS.out.1,bS.out.2.1,bS.out.2.2.1,by rw[zix];exact bS.out.2.2.2.1,bS.out.2.2.2.2.1,bS.out.2.2.2.2.2⟩,HS.out⟩
         case round=>
          clear c0 bS HS;obtain⟨j,v,ls,hj,rfl,bS,HS⟩:=hrel;have bT:=HS.out.size;have jU:W6.heap.size<wr.heap.size:=by omega
          have Nn:zh _:=HS.out.aq;obtain⟨y0,y1,y2,y3,y4⟩:=cE HS.out.box
          by_cases e8:j<hd.length
          ·have OG:(j:Int)<(hd.length:Int):=by omega
           have chd:wr.cell? ⟨g4,j,zi⟩=zn (zp .i64 ((hd.getD j 0:Nat):Int)):=by
            have ho:=HS.out.aq.own 4 (by omega);rw[bS.out.1,bS.out.2.1]at ho;obtain⟨g',c',e1,_,oA,hcc⟩:=pC ho (by rw[cW];omega);rw[cW]at e1;cases e1;rw[hcc j (by rw[cW];exact e8),uu]
           have hlt:=EE.out j e8;obtain⟨gx,cx,o1,Lh⟩:=HRw.out wr HS.out.below q hqk;have a1:=Lh _ hlt;have HJ:zh _:=ziw R hd q e8;have Dw:=zkq R hd (q:=q) (j:=j) (by omega) (by omega);obtain⟨⟨a0,p0⟩,e0⟩:=cJ (HS.out.aq.own 1 (by omega));rw[bS.out.2.2.2.1]at e0;obtain⟨nl,il⟩:∃nl,(uy R hd q j).length=nl:=⟨_,rfl⟩;rw[il]at e0 Dw;rw[e0]at y2;have kx:zh _:=e0;have CQ:zh _:=il;have hh2:((hd.getD j 0:Nat):Int)<256:=by omega
           clear il e0 Lh y0 y1 y3 y4;generalize R q (hd.getD j 0)=r at *;generalize hd.getD j 0=h at *;obtain⟨g5,c5,eU,hrun,sq,sC⟩:=zle Nn.out 1 (by omega) (uy R hd q j) bS.out.2.2.2.1 nl CQ.out _ kx.out (r:Int) (by omega) bT 23;obtain⟨BH,Kb⟩:=HS.out.fieldAt (i:=1) (off:=2) (by omega) rfl sq sC;have zI:zh _:=Kb;have F8:=(cE BH).2.2.1;rw[kx.out]at F8;have f10:=aR _ _ 2 _ _ BH;clear sq sC BH Kb;go_wp2
           go_big_region
           all_goals
            go_wp2
            go_roundw
            case rel=>
             refine⟨j+1,_,_,by omega,by go_num,⟨?_,?_,?_,?_,?_,?_⟩,zI.out⟩
             ·rw[bW _ _ (by omega)];exact bS.out.1
             ·rw[a8 _ _ (by omega)];exact bS.out.2.1
             ·rw[a8 _ _ (by omega)];exact bS.out.2.2.1
             ·rw[ez,HJ.out]
             ·rw[a8 _ _ (by omega)];exact bS.out.2.2.2.2.1
             ·rw[a8 _ _ (by omega)];exact bS.out.2.2.2.2.2
            case measure=>simp[intOf];omega
          ·have me:j=hd.length:=by omega
           subst me;obtain⟨k1,k2⟩:=VG.out _ HS.out.below;have xw:=(HS.out.below.block _ (az x6)).trans x6;obtain⟨q0,q1,q2,q3,q4⟩:=bL xw;obtain⟨⟨a0,p0⟩,e0⟩:=cJ (HS.out.aq.own 2 (by omega));rw[bS.out.2.2.2.2.1,jK,nr,Nat.min_eq_left (by omega)]at e0;rw[e0]at y3;have kx:zh _:=e0;obtain⟨g5,c5,eU,hrun,sq,sC⟩:=zle Nn.out 2 (by omega) ((os.take q).map (λs=>d.tag.getD s 0)) bS.out.2.2.2.2.1 q (by rw[jK,nr,Nat.min_eq_left (by omega)]) _ kx.out t1 (by omega) bT 23;obtain⟨BH,Kb⟩:=HS.out.fieldAt (i:=2) (off:=3) (by omega) rfl sq sC;have F8:=(cE BH).2.2.2.1;rw[kx.out]at F8;have f10:=aR _ _ 3 _ _ BH;obtain⟨vW,K7⟩:∃vW,eU.setCell ⟨W6.heap.size,3,zi⟩ (zx (zn ⟨g5,0,zi⟩) (q+1) c5)=vW:=⟨_,rfl⟩;rw[K7]at Kb;have zI:zh _:=Kb;clear sq sC BH Kb e0 xw y0 y1 y2 y4 q0 q1 q2 q4 k2;go_wp2
           go_big_region
           clear K7 hrun F8 f10 y3 q3 k1 bT jU;obtain⟨k1,k2⟩:=VG.out _ zI.out.below;have xw:=(zI.out.below.block _ (az x6)).trans x6;obtain⟨q0,q1,q2,q3,q4⟩:=bL xw;obtain⟨y0,y1,y2,y3,y4⟩:=cE zI.out.box;rw[bW _ _ (by omega)]at y4;have sE:bq ls 2 ((os.take q).map (λs=>d.tag.getD s 0)++[t1]) 3=(os.take q).map (λs=>d.fin.getD s 0):=by rw[a8 _ _ (by omega)];exact bS.out.2.2.2.2.2
           have VO:zh _:=sE;obtain⟨⟨a0',Z5⟩,e0⟩:=cJ (zI.out.aq.own 3 (by omega));rw[sE,bW _ _ (by omega),jK,nr,Nat.min_eq_left (by omega)]at e0;rw[e0]at y4;have uJ:zh _:=e0;have bT:=zI.out.size;have jU:W6.heap.size<vW.heap.size:=by omega
           obtain⟨g6,c6,w12,hrun,zwv,zw7⟩:=zle zI.out.aq 3 (by omega) ((os.take q).map (λs=>d.fin.getD s 0)) sE q (by rw[jK,nr,Nat.min_eq_left (by omega)]) (.slice a0' q Z5) (by rw[bW _ _ (by omega)];exact uJ.out) t2 (by omega) bT 23;obtain⟨WH,zvK⟩:=zI.out.fieldAt (i:=3) (off:=4) (by omega) rfl zwv zw7;have y12:=(cE WH).2.2.2.2;rw[bW _ _ (by omega),uJ.out]at y12;have f12:=aR _ _ 4 _ _ WH;have zyI:zh _:=zvK;clear zwv zw7 WH zvK e0 xw y0 y1 y2 y3 q0 q1 q2 q3 k1 sE;go_wp2
           go_big_region
           go_wp2
           go_roundw
           case rel=>
            refine⟨q+1,_,_,by omega,by go_num,⟨?_,?_,?_,?_,?_,?_⟩,zyI.out⟩
            ·rw[bW _ _ (by omega),bW _ _ (by omega)];exact bS.out.1
            ·rw[a8 _ _ (by omega),a8 _ _ (by omega)];exact bS.out.2.1
            ·rw[a8 _ _ (by omega),a8 _ _ (by omega)];exact bS.out.2.2.1
            ·rw[a8 _ _ (by omega),a8 _ _ (by omega),<-zkp];exact bS.out.2.2.2.1
            ·rw[a8 _ _ (by omega),ez,HT.out]
            ·rw[ez,HE.out]
           case measure=>simp[intOf];omega
        ·have yJ:q=os.length:=by omega
         have zw:=(HS.out.below.block _ (az z6)).trans z6;unfold bm at zw;obtain⟨z0,z1,z2,z3,z4⟩:=bL zw;have fz:∀o,W9.frozen? ⟨w.heap.size+1,o,zi⟩=false:=λ_=>aR _ _ _ _ _ zw
         obtain⟨y0,y1,y2,y3,y4⟩:=cE HS.out.box;obtain⟨⟨a0,p0⟩,e0⟩:=cJ (HS.out.aq.own 0 (by omega));obtain⟨⟨a1,p1⟩,e1⟩:=cJ (HS.out.aq.own 1 (by omega));obtain⟨⟨a2,p2⟩,e2⟩:=cJ (HS.out.aq.own 2 (by omega));obtain⟨⟨a3,p3⟩,e3⟩:=cJ (HS.out.aq.own 3 (by omega));rw[e0]at y0;rw[e1]at y2;rw[e2]at y3;rw[e3]at y4;have JZ:zh (aS W6.heap.size 4 (dJ W9 (w.heap.size+1) (.slice a0 (ls 0).length p0) (zp .i64 (hd.length:Int)) (.slice a1 (ls 1).length p1) (.slice a2 (ls 2).length p2) (.slice a3 (ls 3).length p3)) v (dG d k)):=((HS.out.aq.zyq (by omega)).congr (λ_ _=>rfl) (HmL.out ls bS.out.2.2.1 (by rw[<-yJ];exact bS.out.2.2.2.1) (by rw[<-yJ];exact bS.out.2.2.2.2.1) (by rw[<-yJ];exact bS.out.2.2.2.2.2))).dJ (by have:=az z6;omega) _ _ _ _ _;have rW:zh (zy w.heap.size w (dJ W9 (w.heap.size+1) (.slice a0 (ls 0).length p0) (zp .i64 (hd.length:Int)) (.slice a1 (ls 1).length p1) (.slice a2 (ls 2).length p2) (.slice a3 (ls 3).length p3))):=Cc (GN.out.trans (HS.out.below.mono GN.out.size)) (by omega) _ _ _ _ _;have EG:zh (fH ((aM k (aN d) 256).length:Int) v=#[.slice a0 (ls 0).length p0,zp .i64 (hd.length:Int),.slice a1 (ls 1).length p1,.slice a2 (ls 2).length p2,.slice a3 (ls 3).length p3]):=by
          show _=_;unfold fH;rw[e0,e1,e2,e3,<-HwL.out]
         have wK:w.heap.size<=W6.heap.size:=GN.out.size;have SY:¬W6.heap.size=w.heap.size+1:=by have:=az z6;omega
         have zy2:zh _:=HHG.out;clear e0 e1 e2 e3 yJ zw;generalize (ls 0).length=n0 at *;generalize (ls 1).length=n1 at *;generalize (ls 2).length=n2 at *;generalize (ls 3).length=n3 at *;go_wp2;refine bw (v:=.agg #[.slice a0 n0 p0,zp .i64 (hd.length:Int),.slice a1 n1 p1,.slice a2 n2 p2,.slice a3 n3 p3]) (by simp[results,results44,go_sem,z0,z1,z2,z3,z4]) rfl ?_;exact⟨k,zy2.out,Hkw.out,W6.heap.size,v,by rw[EG.out],wK,JZ.out,rW.out⟩
end Go.Proofs.Ytfajjdgkiilhfaa
