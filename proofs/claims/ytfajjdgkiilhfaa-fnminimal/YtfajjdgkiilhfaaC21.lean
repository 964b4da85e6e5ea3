import Derived.Test.YtfajjdgkiilhfaaC20
namespace Go.Proofs.Ytfajjdgkiilhfaa
open Value renaming int->za
open Option renaming some->zh,none->zi
set_option maxHeartbeats 4000000
set_option maxRecDepth 100000
open Go.RowKit
attribute [local go_sem ↓] wp_at_zero wp_at_succ
theorem zjj{ns:List aI}(h:ns.all bG=true){k:Nat}(hk:k<ns.length):bG (ns.getD k .zero)=true:=
 qQ.1 h _ (by
  rw[bI,bE hk];exact gy _)
theorem zlk{n:Int}(h:2000<n):oh n=2001:=by unfold oh;split<;>omega
theorem zp8{lo:Nat}(v:Value)(ns:List aI)(w:World)(hs:nX lo w v ns)(hn:ns.length<=1048576)(wE:kP ns=true)(cj:ns.all bG=true):
  Calls Try.prog 63 #[v] w λe w'=>e=.returned (za .i64 (fh ns (ns.length-1)))/\Below w.heap.size w w':=by
 have kI:=hs;obtain⟨ao,cap,rfl,hm,hc⟩:=hs;have qn:Hid _:=cj;have Hkb:Hid _:=wE;clear cj wE;obtain⟨i0,hi,eQ,eR,dR⟩:=info_parts Try.wP
 go_enter Try.func63,Try.ntmps63
 go_wp2_with fail
 refine(zlH _ ns _ kI hn).mono ?_;rintro e w1 ⟨aP,⟨hf,_⟩|⟨_,gl,cl,gr,cr,rfl,hL,hR,pM⟩⟩
 ·exact absurd (hf.symm.trans Hkb.out) (by decide)
 have CN:Hid _:=pM;clear pM;obtain⟨pX,zxu⟩:=zmA ns Hkb.out CN.out qn.out;have zBC:Hid _:=zxu;clear zxu
 go_wp2_with (refine wpList_make_full _ rfl _ _ 23 rfl w.heap.size 3 i0 _ 1 Try.underlying23 hi eQ eR _ _ _ _ ns.length rfl rfl rfl rfl (by rw[dR];omega) (by unfold maxLen;omega) aP.size ?_;intro w2 bV nM)
 have iU:Below w1.heap.size w1 w2:=(Below.refl _ _).grown nM (ax _) (by intro k h;cases h);clear nM;have hinv:jl w.heap.size w w2 ns gl cl gr cr w1.heap.size 0:=⟨bi aP aP.size iU,jy hL iU,jy hR iU,⟨_,bV,λj hj=>absurd hj (dP _)⟩,by have:=uw hL;omega,by have:=uw hR;omega,cM aP.size iU.size⟩;clear hL hR bV;generalize w1.heap.size=g at *
 go_loopw [22] (λi wr=>∃k:Nat,k<=ns.length/\i=za .i64 k/\jl w.heap.size w wr ns gl cl gr cr g k)
  (λi _=>ns.length-(intOf i).toNat)
 case atStart=>exact⟨0,bH _,rfl,hinv⟩
 case round=>
  clear hinv iU aP;obtain⟨k,hk,rfl,hinv⟩:=hrel;obtain⟨IK,nO,jU⟩:=hinv.lt;have hb:=hinv.below
  by_cases hlt:k<ns.length
  ·obtain⟨b,o,sv,nd,rfl,Hn,cQ,c0,c1,c2,c3,c4,jr⟩:=hc.elem hb hlt;have lP:bG nd=true:=by have:=zjj qn.out hlt;rw[Hn.out]at this;exact this
   have dB:b<wr.heap.size:=fR cQ hinv.base;have Ng:Hid (aV nd.kind<=(aQ ns k).length):=by have:=CN.out k hlt;unfold dK at this;rw[Hn.out]at this;exact this
   have xS:Hid (dK ns k=nd.kind):=by show _=_;unfold dK;rw[Hn.out]
   have HW:Hid (fh ns k=qg nd ((fW ns k).drop ((fW ns k).length-aV nd.kind))):=by show _=_;rw[fh,xS.out,Hn.out]
   have Pa:=Ed ns CN.out qn.out (k+1) k (by omega) hlt;obtain⟨⟨u0,t0⟩,t1⟩:=hinv.zwl hlt;have tl:=hinv.NC hlt;have tr:=hinv.WO hlt;obtain⟨kd,rs,mn,mx,gp⟩:=nd;simp only at c0 c2 c3 c4 jr Ng xS;obtain⟨dU,dV,rfl,hsm,wH⟩:=jr;have kk0:(0:Int)<=(k:Int):=by omega
   have kk1:(k:Int)<(ns.length:Int):=by omega
   rcases zkw lP with h1|h2|h3|h4|h5
   ·subst h1;go_wp2
    go_roundw
    case rel=>exact⟨k+1,by omega,by go_num,(hinv.put hlt (by rw[HW.out];rfl)).alloc _⟩
    case measure=>simp[intOf];omega
   ·subst h2;obtain⟨x,y,hx,hy,wN,Pb,kJ⟩:=zmy (ns:=ns) (k:=k) (by rw[xS.out];rfl) Ng.out;have cx:=hinv.vZ wN (by omega);have cy:=hinv.vZ Pb (by omega);have bx:=Ed ns CN.out qn.out (x+1) x (by omega) (by omega);have Iy:=Ed ns CN.out qn.out (y+1) y (by omega) (by omega);have ql:Hid (∀w',jl w.heap.size w w' ns gl cl gr cr g k->w'.cell? ⟨gl,k,zi⟩=zh (za .i64 (x:Int))/\w'.cell? ⟨gr,k,zi⟩=zh (za .i64 (y:Int))/\w'.cell? ⟨g,x,zi⟩=zh (za .i64 (fh ns x))/\w'.cell? ⟨g,y,zi⟩=zh (za .i64 (fh ns y))):=λw' h=>⟨(h.NC hlt).trans (by rw[hx]),(h.WO hlt).trans (by rw[hy]),h.vZ wN (by omega),h.vZ Pb (by omega)⟩
    rw[hx]at tl;rw[hy]at tr;have HV:Hid (fh ns k=oh (fh ns x+fh ns y)):=by
     show _=_;rw[HW.out];unfold qg;rw[ab (by simp),ae (by simp),show aV (aI.kind ⟨2,rs,mn,mx,gp⟩)=2 from rfl,kJ]
     rfl
    clear hx hy kJ Pa;generalize fh ns x=a at *;generalize fh ns y=b' at *;have BZ:IntKind.i64.wrap (a+b')=a+b':=by rw[IntKind.wrap_i64];omega
    have j0:(0:Int)<=(x:Int):=by omega
    have j1:(x:Int)<(ns.length:Int):=by omega
    have j2:(0:Int)<=(y:Int):=by omega
    have j3:(y:Int)<(ns.length:Int):=by omega
    by_cases kf:2000<a+b'
    ·go_wp2
     go_region_held3 (λw'=>w'.cell? ⟨gl,k,zi⟩=zh (za .i64 (x:Int))/\w'.cell? ⟨gr,k,zi⟩=zh (za .i64 (y:Int))/\w'.cell? ⟨g,x,zi⟩=zh (za .i64 (a))/\w'.cell? ⟨g,y,zi⟩=zh (za .i64 (b'))) ((first|exact ql.out _ ((hinv.alloc _).drew)|exact ql.out _ (((hinv.store _).alloc _).drew))) (fail)
     go_wp2
     go_roundw
     case rel=>exact⟨k+1,by omega,by go_num,((((hinv.store _).put hlt (by rw[HV.out,zlk kf])).alloc _).drew)⟩
     case measure=>simp[intOf];omega
    ·go_wp2
     go_region_held3 (λw'=>w'.cell? ⟨gl,k,zi⟩=zh (za .i64 (x:Int))/\w'.cell? ⟨gr,k,zi⟩=zh (za .i64 (y:Int))/\w'.cell? ⟨g,x,zi⟩=zh (za .i64 (a))/\w'.cell? ⟨g,y,zi⟩=zh (za .i64 (b'))) ((first|exact ql.out _ ((hinv.alloc _).drew)|exact ql.out _ (((hinv.store _).alloc _).drew))) (fail)
     go_wp2
     go_roundw
     case rel=>exact⟨k+1,by omega,by go_num,((hinv.put hlt (by rw[HV.out,zll (by omega)])).alloc _).drew⟩
     case measure=>simp[intOf];omega
   ·subst h3;obtain⟨x,y,hx,hy,wN,Pb,kJ⟩:=zmy (ns:=ns) (k:=k) (by rw[xS.out];rfl) Ng.out;have cx:=hinv.vZ wN (by omega);have cy:=hinv.vZ Pb (by omega);have bx:=Ed ns CN.out qn.out (x+1) x (by omega) (by omega);have Iy:=Ed ns CN.out qn.out (y+1) y (by omega) (by omega);have ql:Hid (∀w',jl w.heap.size w w' ns gl cl gr cr g k->w'.cell? ⟨gl,k,zi⟩=zh (za .i64 (x:Int))/\w'.cell? ⟨gr,k,zi⟩=zh (za .i64 (y:Int))/\w'.cell? ⟨g,x,zi⟩=zh (za .i64 (fh ns x))/\w'.cell? ⟨g,y,zi⟩=zh (za .i64 (fh ns y))):=λw' h=>⟨(h.NC hlt).trans (by rw[hx]),(h.WO hlt).trans (by rw[hy]),h.vZ wN (by omega),h.vZ Pb (by omega)⟩
    rw[hx]at tl;rw[hy]at tr;have HV:Hid (fh ns k=oh (fh ns x+fh ns y)):=by
     show _=_;rw[HW.out];unfold qg;rw[ab (by simp),ae (by simp),show aV (aI.kind ⟨3,rs,mn,mx,gp⟩)=2 from rfl,kJ]
     rfl
    clear hx hy kJ Pa;generalize fh ns x=a at *;generalize fh ns y=b' at *;have BZ:IntKind.i64.wrap (a+b')=a+b':=by rw[IntKind.wrap_i64];omega
    have j0:(0:Int)<=(x:Int):=by omega
    have j1:(x:Int)<(ns.length:Int):=by omega
    have j2:(0:Int)<=(y:Int):=by omega
    have j3:(y:Int)<(ns.length:Int):=by omega
    by_cases kf:2000<a+b'
    ·go_wp2
     go_region_held3 (λw'=>w'.cell? ⟨gl,k,zi⟩=zh (za .i64 (x:Int))/\w'.cell? ⟨gr,k,zi⟩=zh (za .i64 (y:Int))/\w'.cell? ⟨g,x,zi⟩=zh (za .i64 (a))/\w'.cell? ⟨g,y,zi⟩=zh (za .i64 (b'))) ((first|exact ql.out _ ((hinv.alloc _).drew)|exact ql.out _ (((hinv.store _).alloc _).drew))) (fail)
     go_wp2
     go_roundw
     case rel=>exact⟨k+1,by omega,by go_num,((((hinv.store _).put hlt (by rw[HV.out,zlk kf])).alloc _).drew)⟩
     case measure=>simp[intOf];omega
    ·go_wp2
     go_region_held3 (λw'=>w'.cell? ⟨gl,k,zi⟩=zh (za .i64 (x:Int))/\w'.cell? ⟨gr,k,zi⟩=zh (za .i64 (y:Int))/\w'.cell? ⟨g,x,zi⟩=zh (za .i64 (a))/\w'.cell? ⟨g,y,zi⟩=zh (za .i64 (b'))) ((first|exact ql.out _ ((hinv.alloc _).drew)|exact ql.out _ (((hinv.store _).alloc _).drew))) (fail)
     go_wp2
     go_roundw
     case rel=>exact⟨k+1,by omega,by go_num,((hinv.put hlt (by rw[HV.out,zll (by omega)])).alloc _).drew⟩
     case measure=>simp[intOf];omega
   ·subst h4;obtain⟨x,hx,wN,kJ⟩:=zmw (ns:=ns) (k:=k) (by rw[xS.out];rfl) Ng.out;have cx:=hinv.vZ wN (by omega);have bx:=Ed ns CN.out qn.out (x+1) x (by omega) (by omega);have ql:Hid (∀w',jl w.heap.size w w' ns gl cl gr cr g k->w'.cell? ⟨gl,k,zi⟩=zh (za .i64 (x:Int))/\w'.cell? ⟨g,x,zi⟩=zh (za .i64 (fh ns x))):=λw' h=>⟨(h.NC hlt).trans (by rw[hx]),h.vZ wN (by omega)⟩
    rw[hx]at tl;have BR:=(zkv lP).2.1;have k8:0<=mn/\mn<=255:=by simp[ly]at BR;omega
    have kH:=zjS BR;have YU:1*1<=fh ns x*oM mn mx:=xH bx.1 kH.1 (by omega) (by omega);have jV:fh ns x*oM mn mx<=2001*256:=xH bx.2 kH.2 (by omega) (by omega);have HV:Hid (fh ns k=oh (fh ns x*oM mn mx)):=by
     show _=_;rw[HW.out];unfold qg;rw[ab (by simp),ab (by simp),ae (by simp),show aV (aI.kind ⟨4,rs,mn,mx,gp⟩)=1 from rfl,kJ]
    clear hx kJ Pa BR lP;generalize fh ns x=a at *;have BZ:IntKind.i64.wrap (a*oM mn mx)=a*oM mn mx:=by rw[IntKind.wrap_i64];omega
    have zC6:wrap64 (a*oM mn mx)=a*oM mn mx:=by unfold wrap64;omega
    have j0:(0:Int)<=(x:Int):=by omega
    have j1:(x:Int)<(ns.length:Int):=by omega
    have bk:=(hinv.alloc (.cells #[za .i64 4,.slice dU rs.length dV,za .i64 mn,za .i64 mx,za .i64 gp] 125)).drew;have zwx:∀w',Below (wr.alloc (.cells #[za .i64 4,.slice dU rs.length dV,za .i64 mn,za .i64 mx,za .i64 gp] 125)).drew.heap.size (wr.alloc (.cells #[za .i64 4,.slice dU rs.length dV,za .i64 mn,za .i64 mx,za .i64 gp] 125)).drew w'->w'.cell? ⟨wr.heap.size,0,zi⟩=zh (za .i64 4)/\w'.cell? ⟨wr.heap.size,1,zi⟩=zh (.slice dU rs.length dV)/\w'.cell? ⟨wr.heap.size,2,zi⟩=zh (za .i64 mn)/\w'.cell? ⟨wr.heap.size,3,zi⟩=zh (za .i64 mx)/\w'.cell? ⟨wr.heap.size,4,zi⟩=zh (za .i64 gp):=λw' h=>⟨(h.cell (by simp)).trans (by simp),(h.cell (by simp)).trans (by simp),(h.cell (by simp)).trans (by simp),(h.cell (by simp)).trans (by simp),(h.cell (by simp)).trans (by simp)⟩
    have GW:Hid _:=zwx;clear zwx;have OC:¬g=wr.heap.size:=by omega
    by_cases kf:2000<a*oM mn mx
    all_goals
     go_wp2
     go_region_held3 (λw'=>w'.cell? ⟨gl,k,zi⟩=zh (za .i64 (x:Int))/\w'.cell? ⟨g,x,zi⟩=zh (za .i64 (a))/\w'.cell? ⟨wr.heap.size,0,zi⟩=zh (za .i64 4)/\w'.cell? ⟨wr.heap.size,1,zi⟩=zh (.slice dU rs.length dV)/\w'.cell? ⟨wr.heap.size,2,zi⟩=zh (za .i64 mn)/\w'.cell? ⟨wr.heap.size,3,zi⟩=zh (za .i64 mx)/\w'.cell? ⟨wr.heap.size,4,zi⟩=zh (za .i64 gp)) ((first|exact⟨(ql.out _ bk).1,(ql.out _ bk).2,GW.out _ (Below.refl _ _)⟩|exact⟨(ql.out _ (bk.same cO)).1,(ql.out _ (bk.same cO)).2,GW.out _ cO⟩|exact⟨(ql.out _ ((bk.same cO).store _)).1,(ql.out _ ((bk.same cO).store _)).2,(World.cell?_of_block (cS _ _ _ _ (λe=>OC e.symm))).trans (GW.out _ cO).1,(World.cell?_of_block (cS _ _ _ _ (λe=>OC e.symm))).trans (GW.out _ cO).2.1,(World.cell?_of_block (cS _ _ _ _ (λe=>OC e.symm))).trans (GW.out _ cO).2.2.1,(World.cell?_of_block (cS _ _ _ _ (λe=>OC e.symm))).trans (GW.out _ cO).2.2.2.1,(World.cell?_of_block (cS _ _ _ _ (λe=>OC e.symm))).trans (GW.out _ cO).2.2.2.2⟩)) ((go_at_call 79;refine(zop _ _ _ _ _ _ k8.1 k8.2).mono ?_;rintro e w5 ⟨rfl,cO⟩;obtain⟨⟨u5,t5⟩,t6⟩:=(bk.same cO).zwl hlt))
     go_wp2
     go_roundw
     case rel=>
      first
       |exact⟨k+1,by omega,by go_num,((bk.same cO).store _).put hlt (by rw[HV.out,zlk kf])⟩
       |exact⟨k+1,by omega,by go_num,(bk.same cO).put hlt (by rw[HV.out,zll (by omega)])⟩
     case measure=>simp[intOf];omega
   ·subst h5;obtain⟨x,hx,wN,kJ⟩:=zmw (ns:=ns) (k:=k) (by rw[xS.out];rfl) Ng.out;have cx:=hinv.vZ wN (by omega);have bx:=Ed ns CN.out qn.out (x+1) x (by omega) (by omega);have ql:Hid (∀w',jl w.heap.size w w' ns gl cl gr cr g k->w'.cell? ⟨gl,k,zi⟩=zh (za .i64 (x:Int))/\w'.cell? ⟨g,x,zi⟩=zh (za .i64 (fh ns x))):=λw' h=>⟨(h.NC hlt).trans (by rw[hx]),h.vZ wN (by omega)⟩
    rw[hx]at tl;have HV:Hid (fh ns k=fh ns x):=by
     show _=_;rw[HW.out];unfold qg;rw[ab (by simp),ab (by simp),ab (by simp),show aV (aI.kind ⟨5,rs,mn,mx,gp⟩)=1 from rfl,kJ]
    clear hx kJ Pa ql;generalize fh ns x=a at *;have j0:(0:Int)<=(x:Int):=by omega
    have j1:(x:Int)<(ns.length:Int):=by omega
    by_cases kf:2000<a
    ·go_wp2
     go_roundw
     case rel=>exact⟨k+1,by omega,by go_num,((hinv.store _).put hlt (by rw[HV.out];omega)).alloc _⟩
     case measure=>simp[intOf];omega
    ·go_wp2
     go_roundw
     case rel=>exact⟨k+1,by omega,by go_num,(hinv.put hlt HV.out.symm).alloc _⟩
     case measure=>simp[intOf];omega
  ·have cI:k=ns.length:=by omega
   obtain⟨m,IQ⟩:∃m,ns.length=m+1:=⟨ns.length-1,by omega⟩;have cl':=hinv.vZ (show m<k by omega) (by omega);have Hm:Hid _:=IQ;have HR:Hid (fh ns m=fh ns (ns.length-1)):=by show _=_;rw[IQ];rfl
   have yF:¬((k:Int)<(m:Int)+1):=by omega
   rw[IQ];clear cI;go_wp2;go_ret;exact⟨gq (by rw[HR.out,Hm.out]),hb⟩
end Go.Proofs.Ytfajjdgkiilhfaa
