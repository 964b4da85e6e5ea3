import Derived.Test.YthddplbodacjgaaGreatDoorC13
import Derived.BigQuiet
namespace Go.Proofs.YthddplbodacjgaaGreatDoor
set_option maxHeartbeats 2000000
set_option maxRecDepth 100000
open Go.RowKit
attribute [local go_sem ↓] Go.wp_at_zero Go.wp_at_succ
section
variable {el we h:Bool}{a0 rl:Int}
theorem zea(h1:(el && !we)=false)(h2:h=true)(h3:a0<0\/rl<a0):(if (el && !we)=true then a0 else if h=true/\(a0<0\/rl<a0) then rl else a0)=rl:=by
 rw[zuU (by rw[h1];exact Bool.false_ne_true),zuV ⟨h2,h3⟩]
theorem zhK(h1:(el && !we)=false)(h3:0<=a0/\a0<=rl):(if (el && !we)=true then a0 else if h=true/\(a0<0\/rl<a0) then rl else a0)=a0:=by
 rw[zuU (by rw[h1];exact Bool.false_ne_true),zuU (fun k=>by omega)]
structure AnI(w0 w W:World)(nv bv:Value)(Ns:List NdX)(X:Xs)(gm:Nat)(m:Nat->Bool):Prop where
 box:W.heap[w.heap.size]?=some (.cells #[nv,bv] 45 (0,0))
 sp:SpX w0 W nv bv Ns X
 ma:Mks W gm Ns.length m
 bl:Below w.heap.size w W
theorem AnI.call{w0 w W W':World}{nv bv:Value}{Ns:List NdX}{X:Xs}{gm:Nat}{m:Nat->Bool}(h:AnI w0 w W nv bv Ns X gm m)(hb:Below W.heap.size W W'):AnI w0 w W' nv bv Ns X gm m:=
 ⟨(hb.block _ (zae h.box)).trans h.box,h.sp.below hb,h.ma.below hb,zaa h.bl h.bl.size hb⟩
theorem zgM(w0 w:World)(nv bv:Value)(Ns:List NdX)(X:Xs)(fst we:Bool)(gm cm:Nat)(m:Nat->Bool)(S:St)(hS:SpX w0 w nv bv Ns X)(hM:Mks w gm Ns.length m)(hm:IsM X Ns.length m S):
  Calls Tryz.prog 18 #[.agg #[nv,bv],.bool fst,.slice (some ⟨gm,0,none⟩) Ns.length cm,.bool we] w fun e W=>e=.returned (.int .i64 (ansG (bsX X) fst S we))/\Below w.heap.size w W:=by
 have hln:=hS.nx.len;have hlx:=hS.bx.len;have hgm:gm<w.heap.size:=zae hM;obtain⟨bo,bcap,rfl,-⟩:=hS.bx.at_;obtain⟨W0,hW0⟩:∃W0,w.alloc (.cells #[nv,.slice bo X.length bcap] 45)=W0:=⟨_,rfl⟩;have b0:Below w.heap.size w W0:=by rw[<-hW0];exact(Below.refl _ _).alloc (zuz _) _
 have x0:W0.heap[w.heap.size]?=some (.cells #[nv,.slice bo X.length bcap] 45 (0,0)):=by rw[<-hW0];exact zuR _ _
 have hI0:AnI w0 w W0 nv (.slice bo X.length bcap) Ns X gm m:=⟨x0,hS.below b0,hM.below b0,b0⟩;obtain⟨p0,p1⟩:=zal x0;have HW0:=hdn hW0;have HM:=hdn hm;have HL:=hdn hS.lab;clear hS hM x0 hW0 b0 hm
 go_enter Tryz.func18,Tryz.ntmps18
 go_upto_region 1 with fail
 rw[HW0.out];clear HW0
 go_wp2_with fail
 go_loopw [9,16] (fun best i wr=>∃k:Nat,k<=X.length/\i=.int .i64 k/\best=.int .i64 (ansN (bsX X) fst S we k)/\AnI w0 w wr nv (.slice bo X.length bcap) Ns X gm m) (fun _ i _=>X.length-(intOf i).toNat)
 case atStart=>exact⟨0,zuL _,rfl,rfl,hI0⟩
 case round=>
  obtain⟨k,hk,rfl,rfl,hI⟩:=hrel;clear hI0 p0 p1
  by_cases hlt:k<X.length
  ·have hx:=ztT hlt;obtain⟨x,hxe⟩:∃x,X[k]=x:=⟨_,rfl⟩;rw[hxe] at hx;clear hxe;obtain⟨gb,cb,hbe,hgb,c0,c1,c2,c3⟩:=hI.sp.bx.row hx;cases hbe;obtain⟨p0,p1⟩:=zal hI.box;have hAt:=hI.sp.tr k x hx;have hi0:(0:Int)<=(k:Int):=by omega
   have hi1:(k:Int)<(X.length:Int):=by omega
   obtain⟨W2,hW2⟩:∃W2,wr.alloc (.cells #[.int .i64 x.1.rule,.bool x.1.bol,.bool x.1.eol,.int .i64 x.1.top] 82)=W2:=⟨_,rfl⟩;have b2:Below wr.heap.size wr W2:=by rw[<-hW2];exact(Below.refl _ _).alloc (zuz _) _
   have x2:W2.heap[wr.heap.size]?=some (.cells #[.int .i64 x.1.rule,.bool x.1.bol,.bool x.1.eol,.int .i64 x.1.top] 82 (0,0)):=by rw[<-hW2];exact zuR _ _
   have hI2:=hI.call b2;have cf:=zb1 w0 x.2 Ns x.1.top W2 nv (.slice (some ⟨gb,0,none⟩) X.length bcap) gm cm Ns.length m hI2.sp.nx hAt hI2.ma (zuz _);have ce:=fun W3 (h:Below W2.heap.size W2 W3)=>zcC w0 x.2 Ns x.1.top W3 nv (.slice (some ⟨gb,0,none⟩) X.length bcap) (hI2.call h).sp.nx hAt
   have hst:=zn0 (fst:=fst) (S:=S) (we:=we) hx;rw[zs5 HM.out HL.out fst hx] at hst;have hn3:∀W3,Below W2.heap.size W2 W3->W3.heap[wr.heap.size]?=some (.cells #[.int .i64 x.1.rule,.bool x.1.bol,.bool x.1.eol,.int .i64 x.1.top] 82 (0,0))/\AnI w0 w W3 nv (.slice (some ⟨gb,0,none⟩) X.length bcap) Ns X gm m:=fun W3 h=>⟨(h.block _ (zae x2)).trans x2,hI2.call h⟩
   obtain⟨q0,q1,q2,q3⟩:=zam x2;obtain⟨r0,r1⟩:=zal hI2.box;generalize hrl:x.1.rule=rl at *;generalize hbl:x.1.bol=bl at *;generalize hel:x.1.eol=el at *;generalize htp:x.1.top=tp at *;generalize hv:finB m x.2=v at *;generalize hem:x.2.ga.emp=em at *;generalize ha1:ansN (bsX X) fst S we (k+1)=a1 at *;generalize ha0:ansN (bsX X) fst S we k=a0 at *;have HA1:=hdn ha1;have HST:=hdn hst;have HN3:=hdn hn3;have HI2:=hdn hI2;have HW2:=hdn hW2;have HCE:=hdn ce;clear hrl hbl hel htp hv hem ha0 ha1 hI hI2 hW2 hx hAt x2 hst hn3 ce b2
   go_upto_region 5 with fail
   rw[HW2.out];clear HW2 c0 c1 c2 c3 p0 p1
   by_cases hc:el=true/\we=false
   ·obtain⟨rfl,rfl⟩:=hc;clear cf;go_wp2
    go_roundw
    case rel=>exact⟨k+1,by omega,by go_num,by rw[HA1.out,HST.out];simp,HI2.out⟩
    case measure=>simp[intOf];omega
   ·have hd:(el && !we)=false:=by
     cases el
     ·rfl
     ·cases we
      ·exact absurd ⟨rfl,rfl⟩ hc
      ·rfl
    have HD:=hdn hd;clear hd hc;have go1:True:=trivial;cases el
    ·skip
     go_wp2_with fail
     refine cf.mono ?_;rintro e W3 ⟨rfl,b3⟩;clear cf;obtain⟨y3,I3⟩:=HN3.out W3 b3;have HI3:=hdn I3;clear I3;obtain⟨q0,q1,q2,q3⟩:=zam y3;obtain⟨r0,r1⟩:=zal HI3.out.box;clear y3;cases v
     ·cases fst
      ·cases bl
       ·skip
        have ce:=HCE.out W3 b3
        go_wp2_with fail
        refine ce.mono ?_;rintro e W4 ⟨rfl,b4'⟩;clear ce;obtain⟨y4,I4⟩:=HN3.out W4 (zaa b3 b3.size b4');have HI4:=hdn I4;clear I4;obtain⟨q0,q1,q2,q3⟩:=zam y4;obtain⟨r0,r1⟩:=zal HI4.out.box;clear y4;cases em
        ·skip
         go_wp2
         go_roundw
         case rel=>exact⟨k+1,by omega,by go_num,by rw[HA1.out,HST.out];simp,HI4.out⟩
         case measure=>simp[intOf];omega
        ·skip
         by_cases hb1:a0<0
         ·skip
          go_wp2
          go_roundw
          case rel=>exact⟨k+1,by omega,by go_num,by rw[HA1.out,HST.out];exact congrArg _ (zea (by simp) (by simp) (by omega)).symm,HI4.out⟩
          case measure=>simp[intOf];omega
         ·by_cases hb2:(rl:Int)<a0
          ·skip
           go_wp2
           go_roundw
           case rel=>exact⟨k+1,by omega,by go_num,by rw[HA1.out,HST.out];exact congrArg _ (zea (by simp) (by simp) (by omega)).symm,HI4.out⟩
           case measure=>simp[intOf];omega
          ·skip
           go_wp2
           go_roundw
           case rel=>exact⟨k+1,by omega,by go_num,by rw[HA1.out,HST.out];exact congrArg _ (zhK (by simp) (by omega)).symm,HI4.out⟩
           case measure=>simp[intOf];omega
       ·skip
        go_wp2
        go_roundw
        case rel=>exact⟨k+1,by omega,by go_num,by rw[HA1.out,HST.out];simp,HI3.out⟩
        case measure=>simp[intOf];omega
      ·skip
       have ce:=HCE.out W3 b3
       go_wp2_with fail
       refine ce.mono ?_;rintro e W4 ⟨rfl,b4'⟩;clear ce;obtain⟨y4,I4⟩:=HN3.out W4 (zaa b3 b3.size b4');have HI4:=hdn I4;clear I4;obtain⟨q0,q1,q2,q3⟩:=zam y4;obtain⟨r0,r1⟩:=zal HI4.out.box;clear y4;cases em
       ·skip
        go_wp2
        go_roundw
        case rel=>exact⟨k+1,by omega,by go_num,by rw[HA1.out,HST.out];simp,HI4.out⟩
        case measure=>simp[intOf];omega
       ·skip
        by_cases hb1:a0<0
        ·skip
         go_wp2
         go_roundw
         case rel=>exact⟨k+1,by omega,by go_num,by rw[HA1.out,HST.out];exact congrArg _ (zea (by simp) (by simp) (by omega)).symm,HI4.out⟩
         case measure=>simp[intOf];omega
        ·by_cases hb2:(rl:Int)<a0
         ·skip
          go_wp2
          go_roundw
          case rel=>exact⟨k+1,by omega,by go_num,by rw[HA1.out,HST.out];exact congrArg _ (zea (by simp) (by simp) (by omega)).symm,HI4.out⟩
          case measure=>simp[intOf];omega
         ·skip
          go_wp2
          go_roundw
          case rel=>exact⟨k+1,by omega,by go_num,by rw[HA1.out,HST.out];exact congrArg _ (zhK (by simp) (by omega)).symm,HI4.out⟩
          case measure=>simp[intOf];omega
     ·skip
      by_cases hb1:a0<0
      ·skip
       go_wp2
       go_roundw
       case rel=>exact⟨k+1,by omega,by go_num,by rw[HA1.out,HST.out];exact congrArg _ (zea (by simp) (by simp) (by omega)).symm,HI3.out⟩
       case measure=>simp[intOf];omega
      ·by_cases hb2:(rl:Int)<a0
       ·skip
        go_wp2
        go_roundw
        case rel=>exact⟨k+1,by omega,by go_num,by rw[HA1.out,HST.out];exact congrArg _ (zea (by simp) (by simp) (by omega)).symm,HI3.out⟩
        case measure=>simp[intOf];omega
       ·skip
        go_wp2
        go_roundw
        case rel=>exact⟨k+1,by omega,by go_num,by rw[HA1.out,HST.out];exact congrArg _ (zhK (by simp) (by omega)).symm,HI3.out⟩
        case measure=>simp[intOf];omega
    ·cases we
     ·exact absurd HD.out (by decide)
     ·skip
      go_wp2_with fail
      refine cf.mono ?_;rintro e W3 ⟨rfl,b3⟩;clear cf;obtain⟨y3,I3⟩:=HN3.out W3 b3;have HI3:=hdn I3;clear I3;obtain⟨q0,q1,q2,q3⟩:=zam y3;obtain⟨r0,r1⟩:=zal HI3.out.box;clear y3;cases v
      ·cases fst
       ·cases bl
        ·skip
         have ce:=HCE.out W3 b3
         go_wp2_with fail
         refine ce.mono ?_;rintro e W4 ⟨rfl,b4'⟩;clear ce;obtain⟨y4,I4⟩:=HN3.out W4 (zaa b3 b3.size b4');have HI4:=hdn I4;clear I4;obtain⟨q0,q1,q2,q3⟩:=zam y4;obtain⟨r0,r1⟩:=zal HI4.out.box;clear y4;cases em
         ·skip
          go_wp2
          go_roundw
          case rel=>exact⟨k+1,by omega,by go_num,by rw[HA1.out,HST.out];simp,HI4.out⟩
          case measure=>simp[intOf];omega
         ·skip
          by_cases hb1:a0<0
          ·skip
           go_wp2
           go_roundw
           case rel=>exact⟨k+1,by omega,by go_num,by rw[HA1.out,HST.out];exact congrArg _ (zea (by simp) (by simp) (by omega)).symm,HI4.out⟩
           case measure=>simp[intOf];omega
          ·by_cases hb2:(rl:Int)<a0
           ·skip
            go_wp2
            go_roundw
            case rel=>exact⟨k+1,by omega,by go_num,by rw[HA1.out,HST.out];exact congrArg _ (zea (by simp) (by simp) (by omega)).symm,HI4.out⟩
            case measure=>simp[intOf];omega
           ·skip
            go_wp2
            go_roundw
            case rel=>exact⟨k+1,by omega,by go_num,by rw[HA1.out,HST.out];exact congrArg _ (zhK (by simp) (by omega)).symm,HI4.out⟩
            case measure=>simp[intOf];omega
        ·skip
         go_wp2
         go_roundw
         case rel=>exact⟨k+1,by omega,by go_num,by rw[HA1.out,HST.out];simp,HI3.out⟩
         case measure=>simp[intOf];omega
       ·skip
        have ce:=HCE.out W3 b3
        go_wp2_with fail
        refine ce.mono ?_;rintro e W4 ⟨rfl,b4'⟩;clear ce;obtain⟨y4,I4⟩:=HN3.out W4 (zaa b3 b3.size b4');have HI4:=hdn I4;clear I4;obtain⟨q0,q1,q2,q3⟩:=zam y4;obtain⟨r0,r1⟩:=zal HI4.out.box;clear y4;cases em
        ·skip
         go_wp2
         go_roundw
         case rel=>exact⟨k+1,by omega,by go_num,by rw[HA1.out,HST.out];simp,HI4.out⟩
         case measure=>simp[intOf];omega
        ·skip
         by_cases hb1:a0<0
         ·skip
          go_wp2
          go_roundw
          case rel=>exact⟨k+1,by omega,by go_num,by rw[HA1.out,HST.out];exact congrArg _ (zea (by simp) (by simp) (by omega)).symm,HI4.out⟩
          case measure=>simp[intOf];omega
         ·by_cases hb2:(rl:Int)<a0
          ·skip
           go_wp2
           go_roundw
           case rel=>exact⟨k+1,by omega,by go_num,by rw[HA1.out,HST.out];exact congrArg _ (zea (by simp) (by simp) (by omega)).symm,HI4.out⟩
           case measure=>simp[intOf];omega
          ·skip
           go_wp2
           go_roundw
           case rel=>exact⟨k+1,by omega,by go_num,by rw[HA1.out,HST.out];exact congrArg _ (zhK (by simp) (by omega)).symm,HI4.out⟩
           case measure=>simp[intOf];omega
      ·skip
       by_cases hb1:a0<0
       ·skip
        go_wp2
        go_roundw
        case rel=>exact⟨k+1,by omega,by go_num,by rw[HA1.out,HST.out];exact congrArg _ (zea (by simp) (by simp) (by omega)).symm,HI3.out⟩
        case measure=>simp[intOf];omega
       ·by_cases hb2:(rl:Int)<a0
        ·skip
         go_wp2
         go_roundw
         case rel=>exact⟨k+1,by omega,by go_num,by rw[HA1.out,HST.out];exact congrArg _ (zea (by simp) (by simp) (by omega)).symm,HI3.out⟩
         case measure=>simp[intOf];omega
        ·skip
         go_wp2
         go_roundw
         case rel=>exact⟨k+1,by omega,by go_num,by rw[HA1.out,HST.out];exact congrArg _ (zhK (by simp) (by omega)).symm,HI3.out⟩
         case measure=>simp[intOf];omega
  ·have hkk:k=X.length:=by omega
   have HI:=hdn hI;clear hI;go_wp2;refine zuN (v:=.int .i64 (ansN (bsX X) fst S we k)) (by simp[results,Tryz.results18,go_sem]) rfl ⟨?_,HI.out.bl⟩;rw[hkk,<-zrY]
   rfl
theorem zoK(w:World)(N ga gb ca cb:Nat)(m m':Nat->Bool)(hA:Mks w ga N m)(hB:Mks w gb N m')(hN:N<=8589934592):
  Calls Tryz.prog 20 #[.slice (some ⟨ga,0,none⟩) N ca,.slice (some ⟨gb,0,none⟩) N cb] w fun e W=>(∃b,e=.returned (.bool b)/\(b=true↔∀p,p<N->m p=m' p))/\Below w.heap.size w W:=by
 have HA:=hdn hA;have HB:=hdn hB;clear hA hB
 go_enter Tryz.func20,Tryz.ntmps20
 go_wp2_with fail
 go_loopw [8] (fun i wr=>∃k:Nat,k<=N/\i=.int .i64 k/\Below w.heap.size w wr/\∀p,p<k->m p=m' p) (fun i _=>N-(intOf i).toNat)
 case atStart=>exact⟨0,zuL _,rfl,Below.refl _ _,fun p h=>absurd h (by omega)⟩
 case round=>
  obtain⟨k,hk,rfl,hb,hp⟩:=hrel;have HP:=hdn hp;have HBL:=hdn hb
  by_cases hlt:k<N
  ·have c0:=(HA.out.below hb).cell k hlt;have c1:=(HB.out.below hb).cell k hlt;have hi0:(0:Int)<=(k:Int):=by omega
   have hi1:(k:Int)<(N:Int):=by omega
   generalize ha:m k=a at *;generalize hbb:m' k=b at *;have HAA:=hdn ha;have HBB:=hdn hbb;clear hp hb ha hbb;rcases a with _|_<;>rcases b with _|_
   ·skip
    go_upto_region 4 with fail
    go_quiet (fail)
    go_wp2
    go_roundw
    case rel=>exact⟨k+1,by omega,by go_num,zaa HBL.out HBL.out.size ⟨rfl,rfl,rfl,zuz _,fun _ _=>rfl⟩,fun p h=>by
     rcases zuC p k with h'|h'
     ·exact HP.out p h'
     ·obtain rfl:p=k:=by omega
      rw[HAA.out,HBB.out]⟩
    case measure=>simp[intOf];omega
   ·skip
    go_upto_region 4 with fail
    go_quiet (fail)
    go_wp2;go_ret;exact⟨⟨_,rfl,fun h=>by simp at h,fun h=>by have:=h k hlt;rw[HAA.out,HBB.out] at this;cases this⟩,zaa HBL.out HBL.out.size ⟨rfl,rfl,rfl,zuz _,fun _ _=>rfl⟩⟩
   ·skip
    go_upto_region 4 with fail
    go_quiet (fail)
    go_wp2;go_ret;exact⟨⟨_,rfl,fun h=>by simp at h,fun h=>by have:=h k hlt;rw[HAA.out,HBB.out] at this;cases this⟩,zaa HBL.out HBL.out.size ⟨rfl,rfl,rfl,zuz _,fun _ _=>rfl⟩⟩
   ·skip
    go_upto_region 4 with fail
    go_quiet (fail)
    go_wp2
    go_roundw
    case rel=>exact⟨k+1,by omega,by go_num,zaa HBL.out HBL.out.size ⟨rfl,rfl,rfl,zuz _,fun _ _=>rfl⟩,fun p h=>by
     rcases zuC p k with h'|h'
     ·exact HP.out p h'
     ·obtain rfl:p=k:=by omega
      rw[HAA.out,HBB.out]⟩
    case measure=>simp[intOf];omega
  ·have hkk:k=N:=by omega
   clear hp hb;go_wp2;go_ret;exact⟨⟨_,rfl,fun _=>hkk ▸ HP.out,fun _=>rfl⟩,HBL.out⟩
end
section
variable {lo:Nat}
theorem zbU.cells{w:World}{cv nv tv ev:Value}{d:DfaD}(hs:zbU lo w cv nv tv ev d)(hf:zaE d){s:Int}{c:Nat}(h0:0<=s)(h1:s<d.tag.length)(hc:c<256):
  ∃(cb co cc nb no nc:Nat),cv=.slice (some ⟨cb,co,none⟩) d.classes.length cc/\nv=.slice (some ⟨nb,no,none⟩) d.next.length nc/\d.next.length<=9223372036854775807/\cb<w.heap.size/\nb<w.heap.size/\
   w.cell? ⟨cb,co+c,none⟩=some (.int .i64 (zhx d c))/\w.cell? ⟨nb,no+(s*d.width+zhx d c).toNat,none⟩=some (.int .i64 (zlG d s c)):=by
 obtain⟨⟨ca,cc,rfl,cm,cx⟩,⟨na,nc,rfl,nm,nx⟩,-,-⟩:=hs;obtain⟨a,b,e,f,g⟩:=hf.idx h0 h1 hc;obtain⟨cb,co,rfl,_,cl,cq⟩:=cx (by rw[hf.cl];omega);obtain⟨nb,no,rfl,_,nl,nq⟩:=nx (by omega);exact⟨cb,co,cc,nb,no,nc,rfl,rfl,nm,cl,nl,cq c (by rw[hf.cl];omega),nq _ (by omega)⟩
theorem zsk(cv nv tv ev:Value)(d:DfaD)(s:Int)(c:Nat)(w:World)(hs:zbU lo w cv nv tv ev d)(hf:zaE d)(h0:0<=s)(h1:s<d.tag.length)(hc:c<256):
  Calls Tryz.prog 44 #[.agg #[cv,.int .i64 d.width,nv,tv,ev],.int .i64 s,.int .i64 c] w fun e w'=>e=.returned (.int .i64 (zlG d s c))/\Below w.heap.size w w':=by
 obtain⟨cb,co,cc,nb,no,nc,rfl,rfl,nm,cl,nl,c0,c1⟩:=hs.cells hf h0 h1 hc;obtain⟨a,b,e,f,g⟩:=hf.idx h0 h1 hc;have hcl:=hf.cl;rw[hcl];have w1:=hf.w1;have w2:=hf.w2;have hn2:=hf.n2;clear hs;generalize zhx d c=x at *;generalize zlG d s c=y at *;have hcc:(c:Int)<256:=by omega
 have hx0:0<=s*d.width+x:=by omega
 have hx1:s*d.width+x<=2000000:=by omega
 go_enter Tryz.func44,Tryz.ntmps44
 go_wp2
 go_quiet (fail)
 go_wp2;go_ret;exact⟨rfl,below_drewN ((Below.refl _ _).alloc (zuz _) _) _⟩
theorem zlH(cv nv tv ev:Value)(d:DfaD)(s:Int)(c:Nat)(w:World)(hs:zbU lo w cv nv tv ev d)(hf:zaE d)(h0:0<=s)(h1:s<d.tag.length)(hc:c<256):
  Calls Tryz.prog 64 #[.agg #[cv,.int .i64 d.width,nv,tv,ev],.int .i64 s,.int .i64 c] w fun e w'=>e=.returned (.int .i64 (zlG d s c))/\Below w.heap.size w w':=by
 obtain⟨cb,co,cc,nb,no,nc,rfl,rfl,nm,cl,nl,c0,c1⟩:=hs.cells hf h0 h1 hc;obtain⟨a,b,e,f,g⟩:=hf.idx h0 h1 hc;have hcl:=hf.cl;rw[hcl];have w1:=hf.w1;have w2:=hf.w2;have hn2:=hf.n2;clear hs;generalize zhx d c=x at *;generalize zlG d s c=y at *;have hcc:(c:Int)<256:=by omega
 have hx0:0<=s*d.width+x:=by omega
 have hx1:s*d.width+x<=2000000:=by omega
 go_enter Tryz.func64,Tryz.ntmps64
 go_wp2
 go_quiet (fail)
 go_wp2;go_ret;exact⟨rfl,below_drewN ((Below.refl _ _).alloc (zuz _) _) _⟩
end
section
variable {xs:List Int}{x:Int}
def natL(l:List Nat):List Value:=l.map fun x:Nat=>.int .i64 (x:Int)
theorem zjN(l:List Nat)(x:Nat):natL (l++[x])=natL l++[.int .i64 (x:Int)]:=by simp[natL]
theorem ziH(l:List Nat)(i x:Nat):(natL l).set i (.int .i64 (x:Int))=natL (l.set i x):=by simp[natL,List.map_set]
theorem zeB(l:List Nat){i:Nat}(h:i<l.length):(natL l)[i]?=some (.int .i64 ((l.getD i 0:Nat):Int)):=by
 simp[natL,List.getD_eq_getElem?_getD,h]
def zav(l:List Nat):List Int:=l.map fun x:Nat=>(x:Int)
theorem zag(l:List Nat):(zav l).length=l.length:=by simp[zav]
theorem zbw(l:List Nat)(i:Nat):(zav l).getD i 0=((l.getD i 0:Nat):Int):=by
 simp only[zav,ztO,ztW];cases l[i]?<;>rfl
theorem zmn{w:World}{B g cap:Nat}{l:List Nat}(h:w.ownsRow B 3 1 (.slice (some ⟨g,0,none⟩) l.length cap) l.length (natL l))(hl:l.length<=9223372036854775807):zbx B w (.slice (some ⟨g,0,none⟩) l.length cap) (zav l):=by
 obtain⟨h1,h2,_,_⟩:=zaV h;refine⟨_,_,by rw[zag],by rw[zag];exact hl,fun _=>⟨g,0,rfl,h1,h2,fun i hi=>?_⟩⟩;rw[zag] at hi;rw[zuK,h.cellAt i (by omega),zeB l hi,zbw]
def plF(xs:List Int)(x:Int):Int:=if xs.findIdx (·== x)<xs.length then (xs.findIdx (·== x):Int) else -1
theorem zlp:0<=plF xs x↔x∈xs:=by
 unfold plF;have h:xs.findIdx (·== x)<xs.length↔x∈xs:=by
  rw[List.findIdx_lt_length];exact⟨fun⟨y,h1,h2⟩=>(eq_of_beq h2) ▸ h1,fun h=>⟨x,h,by simp⟩⟩
 split
 ·rename_i k;exact⟨fun _=>h.1 k,fun _=>by omega⟩
 ·rename_i k;exact⟨fun e=>by omega,fun e=>absurd (h.2 e) k⟩
theorem zo8:plF xs x<0↔x∉xs:=by
 rw[<-zlp];omega
theorem zdI{lo:Nat}(v:Value)(xs:List Int)(x:Int)(w:World)(hs:zbx lo w v xs):
  Calls Tryz.prog 45 #[v,.int .i64 x] w fun e w'=>e=.returned (.int .i64 (plF xs x))/\w'=w:=by
 obtain⟨ao,cap,rfl,hm,hc⟩:=hs
 go_enter Tryz.func45,Tryz.ntmps45
 go_wp2
 go_loopw [9] (fun i wr=>∃k:Nat,k<=xs.length/\i=.int .i64 k/\wr=w/\Hid (∀j,j<k->xs.getD j 0≠x))
  (fun i _=>xs.length-(intOf i).toNat)
 case atStart=>exact⟨0,zuL _,rfl,rfl,fun j hj=>absurd hj (zuI _)⟩
 case round=>
  obtain⟨k,hk,rfl,rfl,HN⟩:=hrel
  by_cases hlt:k<xs.length
  ·obtain⟨b,o,y,rfl,Hn,hbl,c0⟩:=hc.elem (Below.refl _ _) hlt;have hi0:(0:Int)<=(k:Int):=by omega
   have hi1:(k:Int)<(xs.length:Int):=by omega
   by_cases hxy:y=x
   ·have hb:(y==x)=true:=by simp[hxy]
    have HF:Hid (plF xs x=k):=by
     have e:xs.findIdx (·== x)=k:=by
      rw[List.findIdx_eq hlt];have e1:xs[k]=x:=by have:=Hn.out;rw[ztO,ztT hlt] at this;simpa [hxy] using this
      refine⟨by simp[e1],fun j hj=>?_⟩;have:=HN.out j hj;rw[ztO,ztT (by omega)] at this
      simpa using this
     show plF xs x=k;unfold plF;rw[e,zuV hlt]
    go_wp2;go_ret;exact⟨zbl HF.out.symm,by first|rfl|trivial⟩
   ·have hb:(y==x)=false:=by simp[hxy]
    go_wp2
    go_roundw
    case rel=>exact⟨k+1,by omega,by go_num,by first|rfl|trivial,fun j hj=>by
     by_cases e:j=k
     ·subst e;rw[Hn.out];exact hxy
     ·exact HN.out j (by omega)⟩
    case measure=>simp[intOf];omega
  ·have HF:Hid (plF xs x=-1):=by
    have h1:plF xs x<0:=zo8.2 fun hmem=>by
     obtain⟨j,hj,e⟩:=zuf.1 hmem;refine HN.out j (by omega) ?_;rw[ztO,ztT hj];exact e
    show plF xs x=-1;unfold plF at h1 ⊢;split
    ·rw[zuV (by assumption)] at h1;omega
    ·rfl
   go_wp2;go_ret;exact⟨zbl HF.out.symm,by first|rfl|trivial⟩
end
section
variable {d:DfaD}{l:List Nat}{k c:Nat}
def wdN(d:DfaD):Nat:=d.width.toNat
def nxN(d:DfaD)(s c:Nat):Nat:=(d.next.getD (s*wdN d+c) 0).toNat
def clN(d:DfaD)(c:Nat):Nat:=(d.classes.getD c 0).toNat
def stN(d:DfaD)(s c:Nat):Nat:=nxN d s (clN d c)
def anN(d:DfaD)(s:Nat):Int×Int:=(d.tag.getD s 0,d.fin.getD s 0)
theorem zaE.wd(h:zaE d):d.width=(wdN d:Int)/\1<=wdN d/\wdN d<=256:=by have:=h.w1;have:=h.w2;unfold wdN;omega
theorem zaE.nlen(h:zaE d):d.next.length=d.tag.length*wdN d:=by
 have h1:=h.nl;rw[h.wd.1] at h1
 exact_mod_cast h1
theorem zaE.nidx(h:zaE d){s c:Nat}(hs:s<d.tag.length)(hc:c<wdN d):s*wdN d+c<d.next.length:=by
 rw[h.nlen];have:=zuH (wdN d) (show s+1<=d.tag.length by omega);rw[zuv,Nat.one_mul] at this;omega
theorem zaE.nx(h:zaE d){s c:Nat}(hs:s<d.tag.length)(hc:c<wdN d):d.next.getD (s*wdN d+c) 0=(nxN d s c:Int)/\nxN d s c<d.tag.length:=by
 have k:=zcZ h.ns (k:=s*wdN d+c) (h.nidx hs hc);have:=h.n1;unfold nxN;omega
theorem zaE.clc(h:zaE d){c:Nat}(hc:c<256):d.classes.getD c 0=(clN d c:Int)/\clN d c<wdN d:=by
 have k:=zcZ h.cs (k:=c) (by have:=h.cl;omega);have w:=h.wd;unfold clN;omega
theorem zaE.stc(h:zaE d){s c:Nat}(hs:s<d.tag.length)(hc:c<256):stN d s c<d.tag.length:=(h.nx hs (h.clc hc).2).2
theorem zb2:∀(n:Nat) (l:List Nat),l.Nodup->(∀x∈l,x<n)->l.length<=n
 |0,l,_,h=>by
  cases l with
  |nil=>simp
  |cons a l=>exact absurd (h a (by simp)) (zuI _)
 |n+1,l,hn,h=>by
  have h1:=zb2 n (l.erase n) (hn.erase n) (fun x hx=>by
   have h2:=h x (List.mem_of_mem_erase hx);have h3:x≠n:=fun e=>by subst e;exact(List.Nodup.not_mem_erase hn) hx
   omega)
  by_cases hm:n∈l
  ·rw[List.length_erase_of_mem hm] at h1;omega
  ·rw[List.erase_of_not_mem hm] at h1;omega
structure RchD(d:DfaD)(l:List Nat):Prop where
 pos:0<l.length
 head:l.getD 0 0=0
 nd:l.Nodup
 lt:∀x∈l,x<d.tag.length
 cl:∀x∈l,∀c,c<256->stN d x c∈l
structure RchI(d:DfaD)(l:List Nat)(k c:Nat):Prop where
 pos:0<l.length
 head:l.getD 0 0=0
 nd:l.Nodup
 lt:∀x∈l,x<d.tag.length
 done:∀j,j<k->∀i,i<wdN d->(i:Int)∈d.classes->nxN d (l.getD j 0) i∈l
 now:∀i,i<c->(i:Int)∈d.classes->nxN d (l.getD k 0) i∈l
theorem RchI.more{x:Nat}(h:RchI d l k c)(hk:k<l.length)(hx:x<d.tag.length)(hn:x∉l)(e:nxN d (l.getD k 0) c=x):RchI d (l++[x]) k (c+1):=by
 have hg:∀j,j<l.length->(l++[x]).getD j 0=l.getD j 0:=fun j hj=>zdX hj
 refine⟨by simp,by rw[hg 0 h.pos];exact h.head,?_,fun y hy=>?_,fun j hj i hi hu=>?_,fun i hi hu=>?_⟩
 ·rw[zuk];exact⟨h.nd,by simp,fun a ha b hb=>by simp at hb;subst hb;exact fun e=>hn (e ▸ ha)⟩
 ·rcases zuc.1 hy with hy|hy
  ·exact h.lt y hy
  ·simp at hy;omega
 ·rw[hg j (by omega)];exact zuc.2 (.inl (h.done j hj i hi hu))
 ·rw[hg k hk]
  by_cases ei:i=c
  ·subst ei;rw[e];simp
  ·exact zuc.2 (.inl (h.now i (by omega) hu))
theorem RchI.skip(h:RchI d l k c)(hs:(c:Int)∈d.classes->nxN d (l.getD k 0) c∈l):RchI d l k (c+1):=
 ⟨h.pos,h.head,h.nd,h.lt,h.done,fun i hi hu=>by
  by_cases ei:i=c
  ·subst ei;exact hs hu
  ·exact h.now i (by omega) hu⟩
theorem RchI.row(h:RchI d l k c)(hc:wdN d<=c):RchI d l (k+1) 0:=
 ⟨h.pos,h.head,h.nd,h.lt,fun j hj i hi hu=>by
  by_cases ej:j=k
  ·subst ej;exact h.now i (by omega) hu
  ·exact h.done j (by omega) i hi hu,fun i hi=>absurd hi (zuI _)⟩
theorem RchI.end(hf:zaE d)(h:RchI d l k 0)(hk:l.length<=k):RchD d l:=
 ⟨h.pos,h.head,h.nd,h.lt,fun x hx c hc=>by
  obtain⟨j,hj,e⟩:=zuf.1 hx;have:=h.done j (by omega) (clN d c) (hf.clc hc).2 (by
   rw[<-(hf.clc hc).1,ztO,ztT (by have:=hf.cl;omega)];exact zt0 _)
  rw[ztO,ztT hj] at this;simp only[Option.getD_some,e] at this;exact this⟩
theorem zpa(d:DfaD)(hf:zaE d):RchI d [0] 0 0:=
 ⟨by simp,rfl,by simp,fun x hx=>by simp at hx;have:=hf.n1;omega,fun j hj=>absurd hj (zuI _),fun i hi=>absurd hi (zuI _)⟩
def ReR(w:World)(d:DfaD)(e:Ending)(w':World):Prop:=
 ∃(g cap:Nat) (l:List Nat),e=.returned (.slice (some ⟨g,0,none⟩) l.length cap)/\w'.ownsRow w.heap.size 3 1 (.slice (some ⟨g,0,none⟩) l.length cap) l.length (natL l)/\RchD d l/\Below w.heap.size w w'
end
theorem zcO{w:World}{base base':Nat}{e:TypeId}{size:Nat}{v:Value}{n:Nat}{xs:List Value}(h:w.ownsRow base e size v n xs)(hb:base'<=base):w.ownsRow base' e size v n xs:=
 ⟨h.1,h.2.imp id fun⟨g,cap,cur,h1,h2,h3⟩=>⟨g,cap,cur,h1,zuA hb h2,h3⟩⟩
def RchW(W0:World)(d:DfaD)(k c:Nat)(v:Value)(wr:World):Prop:=
 ∃(g cap:Nat) (l:List Nat),v=.slice (some ⟨g,0,none⟩) l.length cap/\wr.ownsRow W0.heap.size 3 1 (.slice (some ⟨g,0,none⟩) l.length cap) l.length (natL l)/\RchI d l k c/\Below W0.heap.size W0 wr
theorem zjC{lo:Nat}(cv nv tv ev:Value)(d:DfaD)(w:World)(hs:zbU lo w cv nv tv ev d)(hf:zaE d):
  Calls Tryz.prog 42 #[.agg #[cv,.int .i64 d.width,nv,tv,ev]] w fun e w'=>ReR w d e w':=by
 obtain⟨i0,hi,hz0,hz1,hz2⟩:=info_parts Tryz.infoInt;obtain⟨hw,hw1,hw2⟩:=hf.wd;rw[hw];clear hw;have hs0:=hs;obtain⟨⟨ca,cc,rfl,cm,cx⟩,⟨na,nc,rfl,nm,nx⟩,⟨ta,tc,rfl,tm,_⟩,⟨ea,ec,rfl,em,_⟩⟩:=hs;have hn1:=hf.n1;have hn2:=hf.n2;obtain⟨nb,no,rfl,_,nl,nqc⟩:=nx (by rw[hf.nlen];exact Nat.mul_pos (by omega) (by omega));obtain⟨W0,hW0⟩:∃W0,w.alloc (.cells #[.slice ca d.classes.length cc,.int .i64 (wdN d:Int),.slice (some ⟨nb,no,none⟩) d.next.length nc,.slice ta d.tag.length tc,.slice ea d.fin.length ec] 26)=W0:=⟨_,rfl⟩;have hb0:Below w.heap.size w W0:=by rw[<-hW0];exact(Below.refl _ _).alloc (zuz _) _
 have x0:W0.heap[w.heap.size]?=some (.cells #[.slice ca d.classes.length cc,.int .i64 (wdN d:Int),.slice (some ⟨nb,no,none⟩) d.next.length nc,.slice ta d.tag.length tc,.slice ea d.fin.length ec] 26 (0,0)):=by rw[<-hW0];exact zuR _ _
 have hl0:w.heap.size<W0.heap.size:=(ztp.1 x0).1;have hI0:RchW W0 d 0 0 (.slice (some ⟨W0.heap.size,0,none⟩) 1 1) (W0.alloc (.cells #[.int .i64 0] 3)):=
  ⟨W0.heap.size,1,[0],rfl,⟨rfl,.inr ⟨_,_,_,rfl,zuz _,zuR _ _,zuz _,by unfold maxLen;omega,rfl,rfl⟩⟩,zpa d hf,(Below.refl _ _).alloc (zuz _) _⟩
 go_enter Tryz.func42,Tryz.ntmps42
 go_wp2
 go_loopw [3,4] (fun v i wr=>∃k:Nat,i=.int .i64 k/\RchW W0 d k 0 v wr)
  (fun _ i _=>d.tag.length-(intOf i).toNat)
 case atStart=>first|exact⟨0,rfl,hI0⟩|(refine⟨0,rfl,?_⟩;rw[<-hW0] at hI0 ⊢;simpa using hI0)
 case round=>
  obtain⟨k,rfl,g,cap,l,rfl,hown,hR,hb⟩:=hrel;have hlen:=zb2 _ l hR.nd hR.lt
  by_cases hlt:k<l.length
  ·have hi0:(0:Int)<=(k:Int):=by omega
   have hi1:(k:Int)<(l.length:Int):=by omega
   go_wp2
   go_loopw [3,5] (fun v i wr=>∃(c g cap:Nat) (l:List Nat),c<=wdN d/\i=.int .i64 c/\v=.slice (some ⟨g,0,none⟩) l.length cap/\k<l.length/\wr.ownsRow W0.heap.size 3 1 (.slice (some ⟨g,0,none⟩) l.length cap) l.length (natL l)/\Hid (RchI d l k c)/\Below W0.heap.size W0 wr)
    (fun _ i _=>wdN d-(intOf i).toNat)
   case atStart=>exact⟨0,g,cap,l,zuL _,rfl,rfl,hlt,hown,hR,hb⟩
   case round=>
    clear hown hR hb hlt hlen hi0 hi1;obtain⟨c,g,cap,l,hc,rfl,rfl,hlt,hown,HR,hb⟩:=hrel;have hlen:=zb2 _ l HR.out.nd HR.out.lt;have hi0:(0:Int)<=(k:Int):=by omega
    have hi1:(k:Int)<(l.length:Int):=by omega
    have hx:=(hb.block _ hl0).trans x0;obtain⟨q0,q1,q2,q3,q4⟩:=zaq hx
    by_cases hcl:c<wdN d
    ·have hbw:Below w.heap.size w wr:=hb0.trans (hb.mono hb0.size);have hsN:l.getD k 0<d.tag.length:=HR.out.lt _ (by rw[ztO,ztT hlt];exact zt0 _);have c1:=hown.cellAt k (by omega);rw[zeB l hlt] at c1;have hnx:=hf.nx hsN hcl;have c2:=(hbw.cell (p:=⟨nb,no+(l.getD k 0*wdN d+c),none⟩) nl).trans (nqc _ (hf.nidx hsN hcl));rw[hnx.1] at c2;have hpl:=zdI _ d.classes c wr (hs0.classes.below hbw);have hidx:=hf.nidx hsN hcl;have hmul:l.getD k 0*wdN d<=4000*256:=zuG (by omega) hw2;have hpl2:∀W:World,W.ownsRow W0.heap.size 3 1 (.slice (some ⟨g,0,none⟩) l.length cap) l.length (natL l)->Calls Tryz.prog 45 #[.slice (some ⟨g,0,none⟩) l.length cap,.int .i64 (nxN d (l.getD k 0) c)] W fun e w'=>e=.returned (.int .i64 (plF (zav l) (nxN d (l.getD k 0) c)))/\w'=W:=fun W hW=>zdI _ (zav l) _ W (zmn hW (by omega))
     have Hmem:Hid (plF (zav l) (nxN d (l.getD k 0) c)<0↔nxN d (l.getD k 0) c∉l):=by
      show _↔_;rw[zo8];unfold zav;rw[zug];exact⟨fun h hm=>h ⟨_,hm,rfl⟩,fun h ⟨x,hx,e⟩=>h (by have e2:x=nxN d (l.getD k 0) c:=(by omega);exact e2 ▸ hx)⟩
     have Hsk:Hid (((c:Int)∈d.classes->nxN d (l.getD k 0) c∈l)->RchI d l k (c+1)):=fun h=>HR.out.skip h
     have Hmo:Hid (nxN d (l.getD k 0) c∉l->RchI d (l++[nxN d (l.getD k 0) c]) k (c+1)):=fun h=>HR.out.more hlt hnx.2 h rfl
     have Hused:Hid (0<=plF d.classes c↔(c:Int)∈d.classes):=zlp;generalize nxN d (l.getD k 0) c=y at *;generalize l.getD k 0=s0 at *;generalize plF d.classes (c:Int)=pu at *;generalize plF (zav l) (y:Int)=pv at *;have hj0:(0:Int)<=(s0:Int)*(wdN d:Int):=Int.mul_nonneg (by omega) (by omega);have hj1:(s0:Int)*(wdN d:Int)<=1024000:=by have:((s0*wdN d:Nat):Int)<=((4000*256:Nat):Int):=(by exact_mod_cast hmul);simpa using this
     have hjn:((s0:Int)*(wdN d:Int)+(c:Int))=((s0*wdN d+c:Nat):Int):=by simp
     have hj2:(s0:Int)*(wdN d:Int)+(c:Int)<(d.next.length:Int):=by rw[hjn];exact_mod_cast hidx
     have htn:((s0:Int)*(wdN d:Int)+(c:Int)).toNat=s0*wdN d+c:=by rw[hjn];exact ztB _
     rw[<-htn] at c2;have hx0:0<=(s0:Int)*(wdN d:Int)+(c:Int):=by omega
     have hx1:(s0:Int)*(wdN d:Int)+(c:Int)<=2000000:=by omega
     clear htn hjn hidx hmul hnx;obtain⟨P,hP⟩:∃P,(s0:Int)*(wdN d:Int)=P:=⟨_,rfl⟩;rw[hP] at hj0 hj1 hj2 c2 hx0 hx1;have hi3:(c:Int)<(wdN d:Int):=by omega
     have hB:=hb.size
     by_cases hu:0<=pu
     ·by_cases hv:pv<0
      ·go_wp2_with (go_at_call 45;refine hpl.mono ?_;rintro e w' ⟨rfl,hw'⟩;subst w')
       go_quiet (fail)
       have hbn:Below wr.heap.size wr (wr.drewN nq):=below_drewN (Below.refl _ _) nq;have hown2:=zad hown hbn;have hpl3:=hpl2 _ hown2
       go_wp2_with (first|(go_at_call 45;refine hpl3.mono ?_;rintro e w' ⟨rfl,hw'⟩;subst w')|(refine zaO (wr.drewN nq) _ rfl rfl (.tmp 46) (.tmp 48) 24 rfl W0.heap.size 3 i0 (.int .i64 0) 8 Tryz.underlying24 hi hz0 hz1 hz2 rfl g cap l.length (natL l) (.int .i64 (y:Int)) rfl hown2 rfl rfl (by omega) (by omega) hB ?_;intro g' cap' w5 hown5 hgrow5 hat))
       go_roundw
       case rel=>exact⟨c+1,g',cap',l++[y],by omega,by go_num,by simp,by simp;omega,by rw[zjN];simpa using hown5,Hmo.out (Hmem.out.1 (by omega)),(hb.trans (hbn.mono hB)).grown hgrow5 hB (fun q hq=>by cases hq;exact(zaV hown).1)⟩
       case measure=>simp[intOf];omega
      ·go_wp2_with (go_at_call 45;refine hpl.mono ?_;rintro e w' ⟨rfl,hw'⟩;subst w')
       go_quiet (fail)
       have hbn:Below wr.heap.size wr (wr.drewN nq):=below_drewN (Below.refl _ _) nq;have hown2:=zad hown hbn;have hpl3:=hpl2 _ hown2
       go_wp2_with (go_at_call 45;refine hpl3.mono ?_;rintro e w' ⟨rfl,hw'⟩;subst w')
       go_roundw
       case rel=>exact⟨c+1,g,cap,l,by omega,by go_num,rfl,hlt,hown2,Hsk.out (fun _=>by
        by_cases e:y∈l
        ·exact e
        ·exact absurd (Hmem.out.2 e) (by omega)),hb.trans (hbn.mono hB)⟩
       case measure=>simp[intOf];omega
     ·go_wp2_with (go_at_call 45;refine hpl.mono ?_;rintro e w' ⟨rfl,hw'⟩;subst w')
      go_quiet (fail)
      have hbn:Below wr.heap.size wr (wr.drewN nq):=below_drewN (Below.refl _ _) nq;have hown2:=zad hown hbn;go_wp2
      go_roundw
      case rel=>exact⟨c+1,g,cap,l,by omega,by go_num,rfl,hlt,hown2,Hsk.out (fun e=>absurd (Hused.out.2 e) (by omega)),hb.trans (hbn.mono hB)⟩
      case measure=>simp[intOf];omega
    ·go_wp2
     go_roundw
     case rel=>exact⟨k+1,by go_num,g,cap,l,rfl,hown,HR.out.row (by omega),hb⟩
     case measure=>simp[intOf];omega
  ·have hfin:=hR.end hf (by omega);have hbw:Below w.heap.size w wr:=hb0.trans (hb.mono hb0.size);go_wp2;refine zuN (v:=.slice (some ⟨g,0,none⟩) l.length cap) (by simp[results,Tryz.results42,go_sem]) rfl ⟨g,cap,l,rfl,zcO hown (by omega),hfin,hbw⟩
end Go.Proofs.YthddplbodacjgaaGreatDoor
