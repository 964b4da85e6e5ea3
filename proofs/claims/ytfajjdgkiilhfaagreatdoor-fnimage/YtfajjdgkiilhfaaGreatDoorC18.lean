import Derived.Test.YtfajjdgkiilhfaaGreatDoorC17
namespace Go.Proofs.YtfajjdgkiilhfaaGreatDoor
open Proofs.Tryz
open Value renaming int->za
open Option renaming some->zb,none->zc
set_option maxHeartbeats 4000000
set_option maxRecDepth 100000
open Go.RowKit
attribute [local go_sem ↓] wp_at_zero wp_at_succ
theorem zj5{ns:List aC}(h:ns.all bk=true){k:Nat}(hk:k<ns.length):bk (ns.getD k .zero)=true:=
 jR.1 h _ (by
  rw[bJ,bE hk];exact gA _)
theorem zmv{n:Int}(h:2000<n):oy n=2001:=by unfold oy;split<;>omega
theorem zrX{lo:Nat}(v:Value)(ns:List aC)(w:World)(hs:og lo w v ns)(hn:ns.length<=1048576)(vW:kL ns=true)(bm:ns.all bk=true):
  Calls prog 77 #[v] w λe w'=>e=.returned (za .i64 (fp ns (ns.length-1)))/\Below w.heap.size w w':=by
 have pj:=hs;obtain⟨ao,cap,rfl,hm,hc⟩:=hs;have qs:Hid _:=bm;have Hkb:Hid _:=vW;clear bm vW;obtain⟨i0,hi,da,dt,cR⟩:=info_parts Tryz.pX
 go_enter func77,ntmps77
 go_wp2_with fail
 refine(zmX _ ns _ pj hn).mono ?_;rintro e w1 ⟨aO,⟨hf,_⟩|⟨_,gl,cl,gr,cr,rfl,hL,hR,pN⟩⟩
 ·exact absurd (hf.symm.trans Hkb.out) (by decide)
 have BM:Hid _:=pN;clear pN;obtain⟨oJ,zy8⟩:=znU ns Hkb.out BM.out qs.out;have zCF:Hid _:=zy8;clear zy8
 go_wp2_with (refine wpList_make_full _ rfl _ _ 23 rfl w.heap.size 3 i0 _ 1 underlying23 hi da dt _ _ _ _ ns.length rfl rfl rfl rfl (by rw[cR];omega) (by unfold maxLen;omega) aO.size ?_;intro w2 bL jn)
 have fP:Below w1.heap.size w1 w2:=(Below.refl _ _).grown jn (aq _) (by intro k h;cases h);clear jn;have hinv:ja w.heap.size w w2 ns gl cl gr cr w1.heap.size 0:=⟨aH aO aO.size fP,vb hL fP,vb hR fP,⟨_,bL,λj hj=>absurd hj (fw _)⟩,by have:=Aa hL;omega,by have:=Aa hR;omega,cY aO.size fP.size⟩;clear hL hR bL;generalize w1.heap.size=g at *
 go_loopw [22] (λi wr=>∃k:Nat,k<=ns.length/\i=za .i64 k/\ja w.heap.size w wr ns gl cl gr cr g k)
  (λi _=>ns.length-(intOf i).toNat)
 case atStart=>exact⟨0,dz _,rfl,hinv⟩
 case round=>
  clear hinv fP aO;obtain⟨k,hk,rfl,hinv⟩:=hrel;obtain⟨uL,sw,iK⟩:=hinv.lt;have hb:=hinv.below
  by_cases hlt:k<ns.length
  ·obtain⟨b,o,sv,nd,rfl,Hn,bF,c0,c1,c2,c3,c4,jF⟩:=hc.elem hb hlt;have pU:bk nd=true:=by have:=zj5 qs.out hlt;rw[Hn.out]at this;exact this
   have dJ:b<wr.heap.size:=dR bF hinv.base;have Mi:Hid (aP nd.kind<=(aN ns k).length):=by have:=BM.out k hlt;unfold dT at this;rw[Hn.out]at this;exact this
   have xi:Hid (dT ns k=nd.kind):=by show _=_;unfold dT;rw[Hn.out]
   have HW:Hid (fp ns k=ql nd ((gf ns k).drop ((gf ns k).length-aP nd.kind))):=by show _=_;rw[fp,xi.out,Hn.out]
   have Kk:=De ns BM.out qs.out (k+1) k (by omega) hlt;obtain⟨⟨u0,t0⟩,t1⟩:=hinv.zx9 hlt;have tl:=hinv.Mv hlt;have tr:=hinv.VZ hlt;obtain⟨kd,rs,mn,mx,gp⟩:=nd;simp only at c0 c2 c3 c4 jF Mi xi;obtain⟨eA,eB,rfl,hsm,wj⟩:=jF;have kk0:(0:Int)<=(k:Int):=by omega
   have kk1:(k:Int)<(ns.length:Int):=by omega
   rcases zlA pU with h1|h2|h3|h4|h5
   ·subst h1;go_wp2
    go_roundw
    case rel=>exact⟨k+1,by omega,by go_num,(hinv.put hlt (by rw[HW.out];rfl)).alloc _⟩
    case measure=>simp[intOf];omega
   ·subst h2;obtain⟨x,y,hx,hy,wv,N5,kY⟩:=znP (ns:=ns) (k:=k) (by rw[xi.out];rfl) Mi.out;have cx:=hinv.vI wv (by omega);have cy:=hinv.vI N5 (by omega);have bx:=De ns BM.out qs.out (x+1) x (by omega) (by omega);have AR:=De ns BM.out qs.out (y+1) y (by omega) (by omega);have qq:Hid (∀w',ja w.heap.size w w' ns gl cl gr cr g k->w'.cell? ⟨gl,k,zc⟩=zb (za .i64 (x:Int))/\w'.cell? ⟨gr,k,zc⟩=zb (za .i64 (y:Int))/\w'.cell? ⟨g,x,zc⟩=zb (za .i64 (fp ns x))/\w'.cell? ⟨g,y,zc⟩=zb (za .i64 (fp ns y))):=λw' h=>⟨(h.Mv hlt).trans (by rw[hx]),(h.VZ hlt).trans (by rw[hy]),h.vI wv (by omega),h.vI N5 (by omega)⟩
    rw[hx]at tl;rw[hy]at tr;have HV:Hid (fp ns k=oy (fp ns x+fp ns y)):=by
     show _=_;rw[HW.out];unfold ql;rw[ab (by simp),af (by simp),show aP (aC.kind ⟨2,rs,mn,mx,gp⟩)=2 from rfl,kY]
     rfl
    clear hx hy kY Kk;generalize fp ns x=a at *;generalize fp ns y=b' at *;have AW:IntKind.i64.wrap (a+b')=a+b':=by rw[IntKind.wrap_i64];omega
    have j0:(0:Int)<=(x:Int):=by omega
    have j1:(x:Int)<(ns.length:Int):=by omega
    have j2:(0:Int)<=(y:Int):=by omega
    have j3:(y:Int)<(ns.length:Int):=by omega
    by_cases iz:2000<a+b'
    ·go_wp2
     go_region_held3 (λw'=>w'.cell? ⟨gl,k,zc⟩=zb (za .i64 (x:Int))/\w'.cell? ⟨gr,k,zc⟩=zb (za .i64 (y:Int))/\w'.cell? ⟨g,x,zc⟩=zb (za .i64 (a))/\w'.cell? ⟨g,y,zc⟩=zb (za .i64 (b'))) ((first|exact qq.out _ ((hinv.alloc _).drew)|exact qq.out _ (((hinv.store _).alloc _).drew))) (fail)
     go_wp2
     go_roundw
     case rel=>exact⟨k+1,by omega,by go_num,((((hinv.store _).put hlt (by rw[HV.out,zmv iz])).alloc _).drew)⟩
     case measure=>simp[intOf];omega
    ·go_wp2
     go_region_held3 (λw'=>w'.cell? ⟨gl,k,zc⟩=zb (za .i64 (x:Int))/\w'.cell? ⟨gr,k,zc⟩=zb (za .i64 (y:Int))/\w'.cell? ⟨g,x,zc⟩=zb (za .i64 (a))/\w'.cell? ⟨g,y,zc⟩=zb (za .i64 (b'))) ((first|exact qq.out _ ((hinv.alloc _).drew)|exact qq.out _ (((hinv.store _).alloc _).drew))) (fail)
     go_wp2
     go_roundw
     case rel=>exact⟨k+1,by omega,by go_num,((hinv.put hlt (by rw[HV.out,zmw (by omega)])).alloc _).drew⟩
     case measure=>simp[intOf];omega
   ·subst h3;obtain⟨x,y,hx,hy,wv,N5,kY⟩:=znP (ns:=ns) (k:=k) (by rw[xi.out];rfl) Mi.out;have cx:=hinv.vI wv (by omega);have cy:=hinv.vI N5 (by omega);have bx:=De ns BM.out qs.out (x+1) x (by omega) (by omega);have AR:=De ns BM.out qs.out (y+1) y (by omega) (by omega);have qq:Hid (∀w',ja w.heap.size w w' ns gl cl gr cr g k->w'.cell? ⟨gl,k,zc⟩=zb (za .i64 (x:Int))/\w'.cell? ⟨gr,k,zc⟩=zb (za .i64 (y:Int))/\w'.cell? ⟨g,x,zc⟩=zb (za .i64 (fp ns x))/\w'.cell? ⟨g,y,zc⟩=zb (za .i64 (fp ns y))):=λw' h=>⟨(h.Mv hlt).trans (by rw[hx]),(h.VZ hlt).trans (by rw[hy]),h.vI wv (by omega),h.vI N5 (by omega)⟩
    rw[hx]at tl;rw[hy]at tr;have HV:Hid (fp ns k=oy (fp ns x+fp ns y)):=by
     show _=_;rw[HW.out];unfold ql;rw[ab (by simp),af (by simp),show aP (aC.kind ⟨3,rs,mn,mx,gp⟩)=2 from rfl,kY]
     rfl
    clear hx hy kY Kk;generalize fp ns x=a at *;generalize fp ns y=b' at *;have AW:IntKind.i64.wrap (a+b')=a+b':=by rw[IntKind.wrap_i64];omega
    have j0:(0:Int)<=(x:Int):=by omega
    have j1:(x:Int)<(ns.length:Int):=by omega
    have j2:(0:Int)<=(y:Int):=by omega
    have j3:(y:Int)<(ns.length:Int):=by omega
    by_cases iz:2000<a+b'
    ·go_wp2
     go_region_held3 (λw'=>w'.cell? ⟨gl,k,zc⟩=zb (za .i64 (x:Int))/\w'.cell? ⟨gr,k,zc⟩=zb (za .i64 (y:Int))/\w'.cell? ⟨g,x,zc⟩=zb (za .i64 (a))/\w'.cell? ⟨g,y,zc⟩=zb (za .i64 (b'))) ((first|exact qq.out _ ((hinv.alloc _).drew)|exact qq.out _ (((hinv.store _).alloc _).drew))) (fail)
     go_wp2
     go_roundw
     case rel=>exact⟨k+1,by omega,by go_num,((((hinv.store _).put hlt (by rw[HV.out,zmv iz])).alloc _).drew)⟩
     case measure=>simp[intOf];omega
    ·go_wp2
     go_region_held3 (λw'=>w'.cell? ⟨gl,k,zc⟩=zb (za .i64 (x:Int))/\w'.cell? ⟨gr,k,zc⟩=zb (za .i64 (y:Int))/\w'.cell? ⟨g,x,zc⟩=zb (za .i64 (a))/\w'.cell? ⟨g,y,zc⟩=zb (za .i64 (b'))) ((first|exact qq.out _ ((hinv.alloc _).drew)|exact qq.out _ (((hinv.store _).alloc _).drew))) (fail)
     go_wp2
     go_roundw
     case rel=>exact⟨k+1,by omega,by go_num,((hinv.put hlt (by rw[HV.out,zmw (by omega)])).alloc _).drew⟩
     case measure=>simp[intOf];omega
   ·subst h4;obtain⟨x,hx,wv,kY⟩:=znN (ns:=ns) (k:=k) (by rw[xi.out];rfl) Mi.out;have cx:=hinv.vI wv (by omega);have bx:=De ns BM.out qs.out (x+1) x (by omega) (by omega);have qq:Hid (∀w',ja w.heap.size w w' ns gl cl gr cr g k->w'.cell? ⟨gl,k,zc⟩=zb (za .i64 (x:Int))/\w'.cell? ⟨g,x,zc⟩=zb (za .i64 (fp ns x))):=λw' h=>⟨(h.Mv hlt).trans (by rw[hx]),h.vI wv (by omega)⟩
    rw[hx]at tl;have AQ:=(zlz pU).2.1;have nK:0<=mn/\mn<=255:=by simp[lz]at AQ;omega
    have mP:=zkL AQ;have hm0:1*1<=fp ns x*oO mn mx:=wU bx.1 mP.1 (by omega) (by omega);have oI:fp ns x*oO mn mx<=2001*256:=wU bx.2 mP.2 (by omega) (by omega);have HV:Hid (fp ns k=oy (fp ns x*oO mn mx)):=by
     show _=_;rw[HW.out];unfold ql;rw[ab (by simp),ab (by simp),af (by simp),show aP (aC.kind ⟨4,rs,mn,mx,gp⟩)=1 from rfl,kY]
    clear hx kY Kk AQ pU;generalize fp ns x=a at *;have AW:IntKind.i64.wrap (a*oO mn mx)=a*oO mn mx:=by rw[IntKind.wrap_i64];omega
    have zD3:wrap64 (a*oO mn mx)=a*oO mn mx:=by unfold wrap64;omega
    have j0:(0:Int)<=(x:Int):=by omega
    have j1:(x:Int)<(ns.length:Int):=by omega
    have cZ:=(hinv.alloc (.cells #[za .i64 4,.slice eA rs.length eB,za .i64 mn,za .i64 mx,za .i64 gp] 135)).drew;have zyh:∀w',Below (wr.alloc (.cells #[za .i64 4,.slice eA rs.length eB,za .i64 mn,za .i64 mx,za .i64 gp] 135)).drew.heap.size (wr.alloc (.cells #[za .i64 4,.slice eA rs.length eB,za .i64 mn,za .i64 mx,za .i64 gp] 135)).drew w'->w'.cell? ⟨wr.heap.size,0,zc⟩=zb (za .i64 4)/\w'.cell? ⟨wr.heap.size,1,zc⟩=zb (.slice eA rs.length eB)/\w'.cell? ⟨wr.heap.size,2,zc⟩=zb (za .i64 mn)/\w'.cell? ⟨wr.heap.size,3,zc⟩=zb (za .i64 mx)/\w'.cell? ⟨wr.heap.size,4,zc⟩=zb (za .i64 gp):=λw' h=>⟨(h.cell (by simp)).trans (by simp),(h.cell (by simp)).trans (by simp),(h.cell (by simp)).trans (by simp),(h.cell (by simp)).trans (by simp),(h.cell (by simp)).trans (by simp)⟩
    have FU:Hid _:=zyh;clear zyh;have Ni:¬g=wr.heap.size:=by omega
    by_cases iz:2000<a*oO mn mx
    all_goals
     go_wp2
     go_region_held3 (λw'=>w'.cell? ⟨gl,k,zc⟩=zb (za .i64 (x:Int))/\w'.cell? ⟨g,x,zc⟩=zb (za .i64 (a))/\w'.cell? ⟨wr.heap.size,0,zc⟩=zb (za .i64 4)/\w'.cell? ⟨wr.heap.size,1,zc⟩=zb (.slice eA rs.length eB)/\w'.cell? ⟨wr.heap.size,2,zc⟩=zb (za .i64 mn)/\w'.cell? ⟨wr.heap.size,3,zc⟩=zb (za .i64 mx)/\w'.cell? ⟨wr.heap.size,4,zc⟩=zb (za .i64 gp)) ((first|exact⟨(qq.out _ cZ).1,(qq.out _ cZ).2,FU.out _ (Below.refl _ _)⟩|exact⟨(qq.out _ (cZ.same cQ)).1,(qq.out _ (cZ.same cQ)).2,FU.out _ cQ⟩|exact⟨(qq.out _ ((cZ.same cQ).store _)).1,(qq.out _ ((cZ.same cQ).store _)).2,(World.cell?_of_block (bh _ _ _ _ (λe=>Ni e.symm))).trans (FU.out _ cQ).1,(World.cell?_of_block (bh _ _ _ _ (λe=>Ni e.symm))).trans (FU.out _ cQ).2.1,(World.cell?_of_block (bh _ _ _ _ (λe=>Ni e.symm))).trans (FU.out _ cQ).2.2.1,(World.cell?_of_block (bh _ _ _ _ (λe=>Ni e.symm))).trans (FU.out _ cQ).2.2.2.1,(World.cell?_of_block (bh _ _ _ _ (λe=>Ni e.symm))).trans (FU.out _ cQ).2.2.2.2⟩)) ((go_at_call 90;refine(zpY _ _ _ _ _ _ nK.1 nK.2).mono ?_;rintro e w5 ⟨rfl,cQ⟩;obtain⟨⟨u5,t5⟩,t6⟩:=(cZ.same cQ).zx9 hlt))
     go_wp2
     go_roundw
     case rel=>
      first
       |exact⟨k+1,by omega,by go_num,((cZ.same cQ).store _).put hlt (by rw[HV.out,zmv iz])⟩
       |exact⟨k+1,by omega,by go_num,(cZ.same cQ).put hlt (by rw[HV.out,zmw (by omega)])⟩
     case measure=>simp[intOf];omega
   ·subst h5;obtain⟨x,hx,wv,kY⟩:=znN (ns:=ns) (k:=k) (by rw[xi.out];rfl) Mi.out;have cx:=hinv.vI wv (by omega);have bx:=De ns BM.out qs.out (x+1) x (by omega) (by omega);have qq:Hid (∀w',ja w.heap.size w w' ns gl cl gr cr g k->w'.cell? ⟨gl,k,zc⟩=zb (za .i64 (x:Int))/\w'.cell? ⟨g,x,zc⟩=zb (za .i64 (fp ns x))):=λw' h=>⟨(h.Mv hlt).trans (by rw[hx]),h.vI wv (by omega)⟩
    rw[hx]at tl;have HV:Hid (fp ns k=fp ns x):=by
     show _=_;rw[HW.out];unfold ql;rw[ab (by simp),ab (by simp),ab (by simp),show aP (aC.kind ⟨5,rs,mn,mx,gp⟩)=1 from rfl,kY]
    clear hx kY Kk qq;generalize fp ns x=a at *;have j0:(0:Int)<=(x:Int):=by omega
    have j1:(x:Int)<(ns.length:Int):=by omega
    by_cases iz:2000<a
    ·go_wp2
     go_roundw
     case rel=>exact⟨k+1,by omega,by go_num,((hinv.store _).put hlt (by rw[HV.out];omega)).alloc _⟩
     case measure=>simp[intOf];omega
    ·go_wp2
     go_roundw
     case rel=>exact⟨k+1,by omega,by go_num,(hinv.put hlt HV.out.symm).alloc _⟩
     case measure=>simp[intOf];omega
  ·have cC:k=ns.length:=by omega
   obtain⟨m,xO⟩:∃m,ns.length=m+1:=⟨ns.length-1,by omega⟩;have cl':=hinv.vI (show m<k by omega) (by omega);have Hm:Hid _:=xO;have HR:Hid (fp ns m=fp ns (ns.length-1)):=by show _=_;rw[xO];rfl
   have EA:¬((k:Int)<(m:Int)+1):=by omega
   rw[xO];clear cC;go_wp2;go_ret;exact⟨ew (by rw[HR.out,Hm.out]),hb⟩
end Go.Proofs.YtfajjdgkiilhfaaGreatDoor
