import Derived.Test.YtdimhpfiieepiaaGreatDoorC9
namespace Go.Proofs.YtdimhpfiieepiaaGreatDoor
open Proofs.Tryz
open Value renaming int->za
open Option renaming some->zb,none->zc
set_option maxHeartbeats 4000000
set_option maxRecDepth 100000
open Go.RowKit
attribute [local go_sem ↓] wp_at_zero wp_at_succ
theorem zrr{ns:List aM}(h:ns.all aX=true){k:Nat}(hk:k<ns.length):aX (ns.getD k .zero)=true:=
 jl.1 h _ (by
  rw[cL,eY hk];exact oz _)
theorem Wz{n:Int}(h:2000<n):cJ n=2001:=by unfold cJ;split<;>omega
theorem zqo{lo:Nat}(v:Value)(ns:List aM)(w:World)(hs:dU lo w v ns)(hn:ns.length<=1048576)(im:jW ns=true)(db:ns.all aX=true):
  Calls prog 111 #[v] w λe w'=>e=.returned (za .i64 (eA ns (ns.length-1)))/\Below w.heap.size w w':=by
 have bX:=hs;obtain⟨ao,cap,rfl,hm,hc⟩:=hs;have sJ:Hid _:=db;have Ys:Hid _:=im;clear db im;obtain⟨i0,hi,bK,bh,bz⟩:=info_parts Tryz.Oz
 go_enter func111,ntmps111
 go_wp2_with fail
 refine(WH _ ns _ bX hn).mono ?_;rintro e w1 ⟨ak,⟨hf,_⟩|⟨_,gl,cl,gr,cr,rfl,hL,hR,eB⟩⟩
 ·exact absurd (hf.symm.trans Ys.out) (by decide)
 have zF:Hid _:=eB;clear eB;obtain⟨gX,zvX⟩:=Wi ns Ys.out zF.out sJ.out;have zzD:Hid _:=zvX;clear zvX
 go_wp2_with (refine wpList_make_full _ rfl _ _ 23 rfl w.heap.size 3 i0 _ 1 underlying23 hi bK bh _ _ _ _ ns.length rfl rfl rfl rfl (by rw[bz];omega) (by unfold maxLen;omega) ak.size ?_;intro w2 az eF)
 have ed:Below w1.heap.size w1 w2:=(Below.refl _ _).grown eF (ai _) (by intro k h;cases h);clear eF;have hinv:ii w.heap.size w w2 ns gl cl gr cr w1.heap.size 0:=⟨aj ak ak.size ed,cI hL ed,cI hR ed,⟨_,az,λj hj=>absurd hj (dk _)⟩,by have:=qd hL;omega,by have:=qd hR;omega,aU ak.size ed.size⟩;clear hL hR az;generalize w1.heap.size=g at *
 go_loopw [22] (λi wr=>∃k:Nat,k<=ns.length/\i=za .i64 k/\ii w.heap.size w wr ns gl cl gr cr g k)
  (λi _=>ns.length-(intOf i).toNat)
 case atStart=>exact⟨0,aZ _,rfl,hinv⟩
 case round=>
  clear hinv ed ak;obtain⟨k,hk,rfl,hinv⟩:=hrel;obtain⟨GP,lF,fC⟩:=hinv.lt;have hb:=hinv.below
  by_cases hlt:k<ns.length
  ·obtain⟨b,o,sv,nd,rfl,Hn,bu,c0,c1,c2,c3,c4,di⟩:=hc.elem hb hlt;have pO:aX nd=true:=by have:=zrr sJ.out hlt;rw[Hn.out]at this;exact this
   have aB:b<wr.heap.size:=bA bu hinv.base;have I6:Hid (bi nd.kind<=(aN ns k).length):=by have:=zF.out k hlt;unfold bJ at this;rw[Hn.out]at this;exact this
   have vw:Hid (bJ ns k=nd.kind):=by show _=_;unfold bJ;rw[Hn.out]
   have HW:Hid (eA ns k=kL nd ((fO ns k).drop ((fO ns k).length-bi nd.kind))):=by show _=_;rw[eA,vw.out,Hn.out]
   have tu:=Bh ns zF.out sJ.out (k+1) k (by omega) hlt;obtain⟨⟨u0,t0⟩,t1⟩:=hinv.Zg hlt;have tl:=hinv.Jz hlt;have tr:=hinv.Rw hlt;obtain⟨kd,rs,mn,mx,gp⟩:=nd;simp only at c0 c2 c3 c4 di I6 vw;obtain⟨bH,bI,rfl,hsm,jQ⟩:=di;have kk0:(0:Int)<=(k:Int):=by omega
   have kk1:(k:Int)<(ns.length:Int):=by omega
   rcases VU pO with h1|h2|h3|h4|h5
   ·subst h1;go_wp2
    go_roundw
    case rel=>exact⟨k+1,by omega,by go_num,(hinv.put hlt (by rw[HW.out];rfl)).alloc _⟩
    case measure=>simp[intOf];omega
   ·subst h2;obtain⟨x,y,hx,hy,xC,Ez,gz⟩:=zmf (ns:=ns) (k:=k) (by rw[vw.out];rfl) I6.out;have cx:=hinv.ul xC (by omega);have cy:=hinv.ul Ez (by omega);have bx:=Bh ns zF.out sJ.out (x+1) x (by omega) (by omega);have uz:=Bh ns zF.out sJ.out (y+1) y (by omega) (by omega);have oI:Hid (∀w',ii w.heap.size w w' ns gl cl gr cr g k->w'.cell? ⟨gl,k,zc⟩=zb (za .i64 (x:Int))/\w'.cell? ⟨gr,k,zc⟩=zb (za .i64 (y:Int))/\w'.cell? ⟨g,x,zc⟩=zb (za .i64 (eA ns x))/\w'.cell? ⟨g,y,zc⟩=zb (za .i64 (eA ns y))):=λw' h=>⟨(h.Jz hlt).trans (by rw[hx]),(h.Rw hlt).trans (by rw[hy]),h.ul xC (by omega),h.ul Ez (by omega)⟩
    rw[hx]at tl;rw[hy]at tr;have HV:Hid (eA ns k=cJ (eA ns x+eA ns y)):=by
     show _=_;rw[HW.out];unfold kL;rw[aq (by simp),aD (by simp),show bi (aM.kind ⟨2,rs,mn,mx,gp⟩)=2 from rfl,gz]
     rfl
    clear hx hy gz tu;generalize eA ns x=a at *;generalize eA ns y=b' at *;have jx:IntKind.i64.wrap (a+b')=a+b':=by rw[IntKind.wrap_i64];omega
    have j0:(0:Int)<=(x:Int):=by omega
    have j1:(x:Int)<(ns.length:Int):=by omega
    have j2:(0:Int)<=(y:Int):=by omega
    have j3:(y:Int)<(ns.length:Int):=by omega
    by_cases rJ:2000<a+b'
    ·go_wp2
     go_region_held3 (λw'=>w'.cell? ⟨gl,k,zc⟩=zb (za .i64 (x:Int))/\w'.cell? ⟨gr,k,zc⟩=zb (za .i64 (y:Int))/\w'.cell? ⟨g,x,zc⟩=zb (za .i64 (a))/\w'.cell? ⟨g,y,zc⟩=zb (za .i64 (b'))) ((first|exact oI.out _ ((hinv.alloc _).drew)|exact oI.out _ (((hinv.store _).alloc _).drew))) (fail)
     go_wp2
     go_roundw
     case rel=>exact⟨k+1,by omega,by go_num,((((hinv.store _).put hlt (by rw[HV.out,Wz rJ])).alloc _).drew)⟩
     case measure=>simp[intOf];omega
    ·go_wp2
     go_region_held3 (λw'=>w'.cell? ⟨gl,k,zc⟩=zb (za .i64 (x:Int))/\w'.cell? ⟨gr,k,zc⟩=zb (za .i64 (y:Int))/\w'.cell? ⟨g,x,zc⟩=zb (za .i64 (a))/\w'.cell? ⟨g,y,zc⟩=zb (za .i64 (b'))) ((first|exact oI.out _ ((hinv.alloc _).drew)|exact oI.out _ (((hinv.store _).alloc _).drew))) (fail)
     go_wp2
     go_roundw
     case rel=>exact⟨k+1,by omega,by go_num,((hinv.put hlt (by rw[HV.out,Fk (by omega)])).alloc _).drew⟩
     case measure=>simp[intOf];omega
   ·subst h3;obtain⟨x,y,hx,hy,xC,Ez,gz⟩:=zmf (ns:=ns) (k:=k) (by rw[vw.out];rfl) I6.out;have cx:=hinv.ul xC (by omega);have cy:=hinv.ul Ez (by omega);have bx:=Bh ns zF.out sJ.out (x+1) x (by omega) (by omega);have uz:=Bh ns zF.out sJ.out (y+1) y (by omega) (by omega);have oI:Hid (∀w',ii w.heap.size w w' ns gl cl gr cr g k->w'.cell? ⟨gl,k,zc⟩=zb (za .i64 (x:Int))/\w'.cell? ⟨gr,k,zc⟩=zb (za .i64 (y:Int))/\w'.cell? ⟨g,x,zc⟩=zb (za .i64 (eA ns x))/\w'.cell? ⟨g,y,zc⟩=zb (za .i64 (eA ns y))):=λw' h=>⟨(h.Jz hlt).trans (by rw[hx]),(h.Rw hlt).trans (by rw[hy]),h.ul xC (by omega),h.ul Ez (by omega)⟩
    rw[hx]at tl;rw[hy]at tr;have HV:Hid (eA ns k=cJ (eA ns x+eA ns y)):=by
     show _=_;rw[HW.out];unfold kL;rw[aq (by simp),aD (by simp),show bi (aM.kind ⟨3,rs,mn,mx,gp⟩)=2 from rfl,gz]
     rfl
    clear hx hy gz tu;generalize eA ns x=a at *;generalize eA ns y=b' at *;have jx:IntKind.i64.wrap (a+b')=a+b':=by rw[IntKind.wrap_i64];omega
    have j0:(0:Int)<=(x:Int):=by omega
    have j1:(x:Int)<(ns.length:Int):=by omega
    have j2:(0:Int)<=(y:Int):=by omega
    have j3:(y:Int)<(ns.length:Int):=by omega
    by_cases rJ:2000<a+b'
    ·go_wp2
     go_region_held3 (λw'=>w'.cell? ⟨gl,k,zc⟩=zb (za .i64 (x:Int))/\w'.cell? ⟨gr,k,zc⟩=zb (za .i64 (y:Int))/\w'.cell? ⟨g,x,zc⟩=zb (za .i64 (a))/\w'.cell? ⟨g,y,zc⟩=zb (za .i64 (b'))) ((first|exact oI.out _ ((hinv.alloc _).drew)|exact oI.out _ (((hinv.store _).alloc _).drew))) (fail)
     go_wp2
     go_roundw
     case rel=>exact⟨k+1,by omega,by go_num,((((hinv.store _).put hlt (by rw[HV.out,Wz rJ])).alloc _).drew)⟩
     case measure=>simp[intOf];omega
    ·go_wp2
     go_region_held3 (λw'=>w'.cell? ⟨gl,k,zc⟩=zb (za .i64 (x:Int))/\w'.cell? ⟨gr,k,zc⟩=zb (za .i64 (y:Int))/\w'.cell? ⟨g,x,zc⟩=zb (za .i64 (a))/\w'.cell? ⟨g,y,zc⟩=zb (za .i64 (b'))) ((first|exact oI.out _ ((hinv.alloc _).drew)|exact oI.out _ (((hinv.store _).alloc _).drew))) (fail)
     go_wp2
     go_roundw
     case rel=>exact⟨k+1,by omega,by go_num,((hinv.put hlt (by rw[HV.out,Fk (by omega)])).alloc _).drew⟩
     case measure=>simp[intOf];omega
   ·subst h4;obtain⟨x,hx,xC,gz⟩:=zme (ns:=ns) (k:=k) (by rw[vw.out];rfl) I6.out;have cx:=hinv.ul xC (by omega);have bx:=Bh ns zF.out sJ.out (x+1) x (by omega) (by omega);have oI:Hid (∀w',ii w.heap.size w w' ns gl cl gr cr g k->w'.cell? ⟨gl,k,zc⟩=zb (za .i64 (x:Int))/\w'.cell? ⟨g,x,zc⟩=zb (za .i64 (eA ns x))):=λw' h=>⟨(h.Jz hlt).trans (by rw[hx]),h.ul xC (by omega)⟩
    rw[hx]at tl;have dZ:=(VT pO).2.1;have mS:0<=mn/\mn<=255:=by simp[eK]at dZ;omega
    have nR:=E2 dZ;have fk:1*1<=eA ns x*dV mn mx:=Int.mul_le_mul bx.1 nR.1 (by omega) (by omega);have cO:eA ns x*dV mn mx<=2001*256:=Int.mul_le_mul bx.2 nR.2 (by omega) (by omega);have HV:Hid (eA ns k=cJ (eA ns x*dV mn mx)):=by
     show _=_;rw[HW.out];unfold kL;rw[aq (by simp),aq (by simp),aD (by simp),show bi (aM.kind ⟨4,rs,mn,mx,gp⟩)=1 from rfl,gz]
    clear hx gz tu dZ pO;generalize eA ns x=a at *;have jx:IntKind.i64.wrap (a*dV mn mx)=a*dV mn mx:=by rw[IntKind.wrap_i64];omega
    have zAB:wrap64 (a*dV mn mx)=a*dV mn mx:=by unfold wrap64;omega
    have j0:(0:Int)<=(x:Int):=by omega
    have j1:(x:Int)<(ns.length:Int):=by omega
    have cC:=(hinv.alloc (.cells #[za .i64 4,.slice bH rs.length bI,za .i64 mn,za .i64 mx,za .i64 gp] 149)).drew;have ZW:∀w',Below (wr.alloc (.cells #[za .i64 4,.slice bH rs.length bI,za .i64 mn,za .i64 mx,za .i64 gp] 149)).drew.heap.size (wr.alloc (.cells #[za .i64 4,.slice bH rs.length bI,za .i64 mn,za .i64 mx,za .i64 gp] 149)).drew w'->w'.cell? ⟨wr.heap.size,0,zc⟩=zb (za .i64 4)/\w'.cell? ⟨wr.heap.size,1,zc⟩=zb (.slice bH rs.length bI)/\w'.cell? ⟨wr.heap.size,2,zc⟩=zb (za .i64 mn)/\w'.cell? ⟨wr.heap.size,3,zc⟩=zb (za .i64 mx)/\w'.cell? ⟨wr.heap.size,4,zc⟩=zb (za .i64 gp):=λw' h=>⟨(h.cell (by simp)).trans (by simp),(h.cell (by simp)).trans (by simp),(h.cell (by simp)).trans (by simp),(h.cell (by simp)).trans (by simp),(h.cell (by simp)).trans (by simp)⟩
    have Du:Hid _:=ZW;clear ZW;have Kc:¬g=wr.heap.size:=by omega
    by_cases rJ:2000<a*dV mn mx
    all_goals
     go_wp2
     go_region_held3 (λw'=>w'.cell? ⟨gl,k,zc⟩=zb (za .i64 (x:Int))/\w'.cell? ⟨g,x,zc⟩=zb (za .i64 (a))/\w'.cell? ⟨wr.heap.size,0,zc⟩=zb (za .i64 4)/\w'.cell? ⟨wr.heap.size,1,zc⟩=zb (.slice bH rs.length bI)/\w'.cell? ⟨wr.heap.size,2,zc⟩=zb (za .i64 mn)/\w'.cell? ⟨wr.heap.size,3,zc⟩=zb (za .i64 mx)/\w'.cell? ⟨wr.heap.size,4,zc⟩=zb (za .i64 gp)) ((first|exact⟨(oI.out _ cC).1,(oI.out _ cC).2,Du.out _ (Below.refl _ _)⟩|exact⟨(oI.out _ (cC.same bE)).1,(oI.out _ (cC.same bE)).2,Du.out _ bE⟩|exact⟨(oI.out _ ((cC.same bE).store _)).1,(oI.out _ ((cC.same bE).store _)).2,(World.cell?_of_block (cu _ _ _ _ (λe=>Kc e.symm))).trans (Du.out _ bE).1,(World.cell?_of_block (cu _ _ _ _ (λe=>Kc e.symm))).trans (Du.out _ bE).2.1,(World.cell?_of_block (cu _ _ _ _ (λe=>Kc e.symm))).trans (Du.out _ bE).2.2.1,(World.cell?_of_block (cu _ _ _ _ (λe=>Kc e.symm))).trans (Du.out _ bE).2.2.2.1,(World.cell?_of_block (cu _ _ _ _ (λe=>Kc e.symm))).trans (Du.out _ bE).2.2.2.2⟩)) ((go_at_call 135;refine(zou _ _ _ _ _ _ mS.1 mS.2).mono ?_;rintro e w5 ⟨rfl,bE⟩;obtain⟨⟨u5,t5⟩,t6⟩:=(cC.same bE).Zg hlt))
     go_wp2
     go_roundw
     case rel=>
      first
       |exact⟨k+1,by omega,by go_num,((cC.same bE).store _).put hlt (by rw[HV.out,Wz rJ])⟩
       |exact⟨k+1,by omega,by go_num,(cC.same bE).put hlt (by rw[HV.out,Fk (by omega)])⟩
     case measure=>simp[intOf];omega
   ·subst h5;obtain⟨x,hx,xC,gz⟩:=zme (ns:=ns) (k:=k) (by rw[vw.out];rfl) I6.out;have cx:=hinv.ul xC (by omega);have bx:=Bh ns zF.out sJ.out (x+1) x (by omega) (by omega);have oI:Hid (∀w',ii w.heap.size w w' ns gl cl gr cr g k->w'.cell? ⟨gl,k,zc⟩=zb (za .i64 (x:Int))/\w'.cell? ⟨g,x,zc⟩=zb (za .i64 (eA ns x))):=λw' h=>⟨(h.Jz hlt).trans (by rw[hx]),h.ul xC (by omega)⟩
    rw[hx]at tl;have HV:Hid (eA ns k=eA ns x):=by
     show _=_;rw[HW.out];unfold kL;rw[aq (by simp),aq (by simp),aq (by simp),show bi (aM.kind ⟨5,rs,mn,mx,gp⟩)=1 from rfl,gz]
    clear hx gz tu oI;generalize eA ns x=a at *;have j0:(0:Int)<=(x:Int):=by omega
    have j1:(x:Int)<(ns.length:Int):=by omega
    by_cases rJ:2000<a
    ·go_wp2
     go_roundw
     case rel=>exact⟨k+1,by omega,by go_num,((hinv.store _).put hlt (by rw[HV.out];omega)).alloc _⟩
     case measure=>simp[intOf];omega
    ·go_wp2
     go_roundw
     case rel=>exact⟨k+1,by omega,by go_num,(hinv.put hlt HV.out.symm).alloc _⟩
     case measure=>simp[intOf];omega
  ·have bC:k=ns.length:=by omega
   obtain⟨m,nX⟩:∃m,ns.length=m+1:=⟨ns.length-1,by omega⟩;have Zn:=hinv.ul (show m<k by omega) (by omega);have Hm:Hid _:=nX;have HR:Hid (eA ns m=eA ns (ns.length-1)):=by show _=_;rw[nX];rfl
   have GO:¬((k:Int)<(m:Int)+1):=by omega
   rw[nX];clear bC;go_wp2;go_ret;exact⟨eX (by rw[HR.out,Hm.out]),hb⟩
end Go.Proofs.YtdimhpfiieepiaaGreatDoor
