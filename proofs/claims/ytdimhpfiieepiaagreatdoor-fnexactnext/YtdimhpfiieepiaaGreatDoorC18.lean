import Derived.Test.YtdimhpfiieepiaaGreatDoorC17
import Derived.BigQuiet
import Derived.Deep.QuietTactic
import Derived.Deep.RegionHeld3
import Derived.Deep.DrawnRows
namespace Go.Proofs.YtdimhpfiieepiaaGreatDoor
open Proofs.Tryz
open Option renaming none->zb,some->zc
open Value renaming int->ze,slice->zf,agg->zl
open RowKit renaming Below->zg,Hid->zh
open Go renaming World->zi,Calls->zk
open Obj renaming cells->zj
set_option maxHeartbeats 4000000
set_option maxRecDepth 100000
open Go.RowKit
section
attribute [local go_sem ↓] wp_at_zero wp_at_succ
structure dy(X:zi) where
 W:zi
 h:zg X.heap.size X W
instance zzK (X:zi):Nonempty (dy X):=⟨⟨X,Below.refl _ _⟩⟩
theorem Md{P:Prop}{q:Bool}(h:q=true↔P)(k:¬P):q=false:=by
 cases q
 ·rfl
 ·exact absurd (h.1 rfl) k
theorem zrC(ns:List aM)(n x y:Nat)(hn:n<ns.length)(hk:bJ ns n=2)(hT:aK ns n=.seq (aK ns x) (aK ns y))(hL:lh ns n=x)(hR:oh ns n=y)(hE:jB ns x)(hF:jB ns y)(hX:pD ns x)(hY:pD ns y):pD ns n:=by
 intro w ao c gl cl gr cr t B i j g cap m sp l aB az hsm hB fk cO dA fj ht hg du;rw[hT]at du;obtain⟨iG,fe,hv,AK,hc⟩:=aB.nodes;cases hv;obtain⟨b,o,sv,nd,rfl,Hn,bu,c0,c1,c2,c3,c4,di⟩:=hc.elem (Below.refl _ _) hn;have cM:nd.kind=2:=by rw[<-hk];unfold bJ;rw[Hn.out]
 rw[cM]at c0;obtain⟨bH,bI,rfl,Eu,jQ⟩:=di;have l0:=aB.left n hn;rw[hL]at l0;have r0:=aB.right n hn;rw[hR]at r0;have hlt:=aB.za;have hrt:=aB.zd;have dO:(0:Int)<=(n:Int):=by omega
 have dh:(n:Int)<(ns.length:Int):=by omega
 obtain⟨W0,ah⟩:∃W0,(w.alloc (zj #[zf (zc ⟨b,o,zb⟩) ns.length c,zf (zc ⟨gl,0,zb⟩) ns.length cl,zf (zc ⟨gr,0,zb⟩) ns.length cr,.string t] 119)).alloc (zj #[ze .i64 2,.slice bH nd.set.length bI,ze .i64 nd.min,ze .i64 nd.max,ze .i64 nd.group] 149)=W0:=⟨_,rfl⟩;have ae:zg w.heap.size w W0:=by rw[<-ah];exact(au).alloc (by simp) _
 have k1:W0.heap[w.heap.size]?=zc (zj #[zf (zc ⟨b,o,zb⟩) ns.length c,zf (zc ⟨gl,0,zb⟩) ns.length cl,zf (zc ⟨gr,0,zb⟩) ns.length cr,.string t] 119 (0,0)):=by rw[<-ah];exact cQ (aL _ _)
 have k2:W0.heap[w.heap.size+1]?=zc (zj #[ze .i64 2,.slice bH nd.set.length bI,ze .i64 nd.min,ze .i64 nd.max,ze .i64 nd.group] 149 (0,0)):=by rw[<-ah];exact Dc _ _ _
 obtain⟨p0,p1,p2,p3⟩:=gC k1;obtain⟨q0,q1,q2,q3,q4⟩:=EW k2;have bX:w.heap.size+1<W0.heap.size:=uV k2;obtain⟨cut,l1,l2,hG,fD,jc,rfl⟩:=du;have Gq:=λ(kk:Nat) (W:zi) (hb:zg w.heap.size w W) (bC:kk<=t.size)=>Df ns x hE W (zc ⟨b,o,zb⟩) c gl cl gr cr t i kk (aB.below hb) (by omega) bC ht
 have JR:=λ(kk:Nat) (W:zi) (hb:zg w.heap.size w W) (bC:kk<=t.size)=>Df ns y hF W (zc ⟨b,o,zb⟩) c gl cl gr cr t kk j (aB.below hb) bC fj ht
 have cV:=λ(W:zi) (hb:zg w.heap.size w W)=>hX W (zc ⟨b,o,zb⟩) c gl cl gr cr t B i cut g cap m sp l1 (aB.below hb) (cI az hb) hsm (aU hB hb.size) fk cO hG.1 (aU hG.2.1 fj) ht (λz hz=>hg z (er.2 (.inl hz))) fD
 have mP:=λ(W:zi) (hb:zg w.heap.size w W) (g' cap':Nat) (h1:W.ownsRow B 71 2 (zf (zc ⟨g',0,zb⟩) m cap') m (pv (dK sp l1)))=>hY W (zc ⟨b,o,zb⟩) c gl cl gr cr t B cut j g' cap' m (dK sp l1) l2 (aB.below hb) h1 (by rw[zv];exact hsm) (aU hB hb.size) fk cO hG.2.1 fj ht (λz hz=>hg z (er.2 (.inr hz))) jc
 have qq:=hG.1;have dx:=hG.2.1;have oK:zh (Lg t.data.toList (aK ns x) i cut/\Lg t.data.toList (aK ns y) cut j):=hG.2.2.1;have zG:zh (∀k,cut<k->k<=j->¬(Lg t.data.toList (aK ns x) i k/\Lg t.data.toList (aK ns y) k j)):=hG.2.2.2;have Hu:zh (dK sp (l1++l2)=dK (dK sp l1) l2):=Iz sp l1 l2;have H0:jE w (zf (zc ⟨b,o,zb⟩) ns.length c) (zf (zc ⟨gl,0,zb⟩) ns.length cl) (zf (zc ⟨gr,0,zb⟩) ns.length cr) (.string t) (ze .i64 2) (.slice bH nd.set.length bI) (ze .i64 nd.min) (ze .i64 nd.max) (ze .i64 nd.group) gl gr n (ze .i64 x) (ze .i64 y) W0:=⟨ae,bX,p0,p1,p2,p3,q0,q1,q2,q3,q4,(ae.cell (p:=⟨gl,n,zb⟩) hlt).trans l0,(ae.cell (p:=⟨gr,n,zb⟩) hrt).trans r0,hlt,hrt⟩;clear hT hk cM hc jQ aB hX hY hE hF hG fD jc hg k1 k2 p0 p1 p2 p3 q1 q2 q3 q4 l0 r0;obtain⟨-,-,a0,a1,a2,a3,d0,d1,d2,d3,d4,lA,rA,-,-⟩:=id H0
 go_enter func66,ntmps66
 go_wp2;clear a0 a1 a2 a3 d0 d1 d2 d3 d4 lA rA ah c0 c1 c2 c3 c4 q0
 go_loopw [13] (λk wr=>∃kk:Nat,cut<=kk/\kk<=j/\k=ze .i64 kk/\jE w (zf (zc ⟨b,o,zb⟩) ns.length c) (zf (zc ⟨gl,0,zb⟩) ns.length cl) (zf (zc ⟨gr,0,zb⟩) ns.length cr) (.string t) (ze .i64 2) (.slice bH nd.set.length bI) (ze .i64 nd.min) (ze .i64 nd.max) (ze .i64 nd.group) gl gr n (ze .i64 x) (ze .i64 y) wr)
  (λk _=>(intOf k).toNat)
 case atStart=>exact⟨j,dx,ai _,rfl,H0⟩
 case round=>
  clear H0;obtain⟨kk,cM,iA,rfl,Hr⟩:=hrel;obtain⟨dY,CI,zU,zV,zW,zX,B2,B3,B4,B5,B7,lA,rA,-,-⟩:=Hr;have x0:∀s:dy wr,s.W.cell? ⟨w.heap.size,0,zb⟩=zc (zf (zc ⟨b,o,zb⟩) ns.length c):=λs=>(s.h.cell (p:=⟨w.heap.size,0,zb⟩) (by show w.heap.size<_;omega)).trans zU
  have x1:∀s:dy wr,s.W.cell? ⟨w.heap.size,1,zb⟩=zc (zf (zc ⟨gl,0,zb⟩) ns.length cl):=λs=>(s.h.cell (p:=⟨w.heap.size,1,zb⟩) (by show w.heap.size<_;omega)).trans zV
  have x2:∀s:dy wr,s.W.cell? ⟨w.heap.size,2,zb⟩=zc (zf (zc ⟨gr,0,zb⟩) ns.length cr):=λs=>(s.h.cell (p:=⟨w.heap.size,2,zb⟩) (by show w.heap.size<_;omega)).trans zW
  have x3:∀s:dy wr,s.W.cell? ⟨w.heap.size,3,zb⟩=zc (.string t):=λs=>(s.h.cell (p:=⟨w.heap.size,3,zb⟩) (by show w.heap.size<_;omega)).trans zX
  have x4:∀s:dy wr,s.W.cell? ⟨gl,n,zb⟩=zc (ze .i64 x):=λs=>(s.h.cell (p:=⟨gl,n,zb⟩) (by have:=dY.size;show gl<_;omega)).trans lA
  have x5:∀s:dy wr,s.W.cell? ⟨gr,n,zb⟩=zc (ze .i64 y):=λs=>(s.h.cell (p:=⟨gr,n,zb⟩) (by have:=dY.size;show gr<_;omega)).trans rA
  have iZ:kk<=t.size:=by omega
  go_wp2
  by_cases hkc:kk=cut
  ·subst hkc;have HA:zh (Lg t.data.toList (aK ns x) i kk):=oK.out.1;have kN:zh (Lg t.data.toList (aK ns y) kk j):=oK.out.2;have xa:∀s:dy wr,zk prog 92 #[zl #[zf (zc ⟨b,o,zb⟩) ns.length c,zf (zc ⟨gl,0,zb⟩) ns.length cl,zf (zc ⟨gr,0,zb⟩) ns.length cr,.string t],ze .i64 x,ze .i64 i,ze .i64 kk] s.W λe w'=>e=.returned (.bool true)/\∃s':dy wr,w'=s'.W:=λs=>(Gq kk s.W (aj dY dY.size s.h) iZ).mono λe w' ⟨q,he,hq,hb⟩=>⟨by rw[he,show q=true from(by first|exact hq.2 HA.out|exact Md hq HA.out)],⟨⟨w',aj s.h s.h.size hb⟩,rfl⟩⟩
   have JT:∀s:dy wr,zk prog 92 #[zl #[zf (zc ⟨b,o,zb⟩) ns.length c,zf (zc ⟨gl,0,zb⟩) ns.length cl,zf (zc ⟨gr,0,zb⟩) ns.length cr,.string t],ze .i64 y,ze .i64 kk,ze .i64 j] s.W λe w'=>e=.returned (.bool true)/\∃s':dy wr,w'=s'.W:=λs=>(JR kk s.W (aj dY dY.size s.h) iZ).mono λe w' ⟨q,he,hq,hb⟩=>⟨by rw[he,show q=true from(by first|exact hq.2 kN.out|exact Md hq kN.out)],⟨⟨w',aj s.h s.h.size hb⟩,rfl⟩⟩
   refine xM 21 (λw'=>∃s:dy wr,w'=s.W) (by kernel_rfl) ⟨⟨wr.drew,⟨rfl,rfl,rfl,ai _,λ_ _=>rfl⟩⟩,rfl⟩ (by decide) (by kernel_rfl) ?_;intro os ck;simp only[nE,tV]at ck;subst ck
   repeat (go_big_quiet_step (first|(go_at_call_of 92 (Value.int IntKind.i64 (x:Int));exact xa _)|(go_at_call_of 92 (Value.int IntKind.i64 (y:Int));exact JT _)))
   refine wpQuiet_nil ?_;rintro w6 ⟨⟨Wb,dz⟩,rfl⟩ r hr;simp only[wM,wN]at hr;subst hr;have H6:jE w (zf (zc ⟨b,o,zb⟩) ns.length c) (zf (zc ⟨gl,0,zb⟩) ns.length cl) (zf (zc ⟨gr,0,zb⟩) ns.length cr) (.string t) (ze .i64 2) (.slice bH nd.set.length bI) (ze .i64 nd.min) (ze .i64 nd.max) (ze .i64 nd.group) gl gr n (ze .i64 x) (ze .i64 y) w6:=jE.call ⟨dY,CI,zU,zV,zW,zX,B2,B3,B4,B5,B7,lA,rA,hlt,hrt⟩ dz;have H7:=H6.call ((Below.refl w6.heap.size w6).drew);clear xa JT Gq JR HA kN x0 x1 x2 x3 x4 x5 dY CI zU zV zW zX B2 B3 B4 B5 B7 lA rA;obtain⟨-,-,e0,e1,e2,e3,-,-,-,-,-,eL,eR,-,-⟩:=H6;have GF:zg w.heap.size w w6.drew/\w.heap.size+1<w6.drew.heap.size/\w6.drew.cell? ⟨w.heap.size,0,zb⟩=zc (zf (zc ⟨b,o,zb⟩) ns.length c)/\w6.drew.cell? ⟨w.heap.size,1,zb⟩=zc (zf (zc ⟨gl,0,zb⟩) ns.length cl)/\w6.drew.cell? ⟨w.heap.size,2,zb⟩=zc (zf (zc ⟨gr,0,zb⟩) ns.length cr)/\w6.drew.cell? ⟨w.heap.size,3,zb⟩=zc (.string t)/\w6.drew.cell? ⟨gl,n,zb⟩=zc (ze .i64 x)/\w6.drew.cell? ⟨gr,n,zb⟩=zc (ze .i64 y):=⟨H7.1,H7.2.1,e0,e1,e2,e3,eL,eR⟩;have dr:=GF.1;clear H7;go_wp2;clear e0 e1 e2 e3 eL eR
   go_region_held3 (λw'=>zg w.heap.size w w'/\w.heap.size+1<w'.heap.size/\w'.cell? ⟨w.heap.size,0,zb⟩=zc (zf (zc ⟨b,o,zb⟩) ns.length c)/\w'.cell? ⟨w.heap.size,1,zb⟩=zc (zf (zc ⟨gl,0,zb⟩) ns.length cl)/\w'.cell? ⟨w.heap.size,2,zb⟩=zc (zf (zc ⟨gr,0,zb⟩) ns.length cr)/\w'.cell? ⟨w.heap.size,3,zb⟩=zc (.string t)/\w'.cell? ⟨gl,n,zb⟩=zc (ze .i64 x)/\w'.cell? ⟨gr,n,zb⟩=zc (ze .i64 y)) ((first|exact GF|exact E3 hlt hrt (by assumption) dX|exact E3 hlt hrt (by assumption) iJ|go_keep)) ((first|(have hgo:=kD;go_at_call 66;refine(mP _ (by first|exact dr|exact(‹zg w.heap.size w _/\_›).1) g8 fB hgo).mono ?_;rintro e w9 ⟨g9,sR,rfl,tD,iJ⟩)|(go_at_call 66;refine(cV _ (by first|exact dr|exact(‹zg w.heap.size w _/\_›).1)).mono ?_;rintro e w8 ⟨g8,fB,rfl,kD,dX⟩)))
   all_goals
    have bj:=aj (aj dr dr.size dX) (aj dr dr.size dX).size iJ;rw[<-Hu.out]at tD;go_wp2;exact bD (v:=zf (zc ⟨g9,0,zb⟩) m sR) (by simp[results,results66,go_sem]) rfl ⟨g9,sR,rfl,tD,bj⟩
  ·have oY:cut<kk:=by omega
   by_cases hA:Lg t.data.toList (aK ns x) i kk
   ·have HA:zh (Lg t.data.toList (aK ns x) i kk):=hA;have kN:zh (¬Lg t.data.toList (aK ns y) kk j):=λh=>zG.out kk oY iA ⟨hA,h⟩
    clear hA;have xa:∀s:dy wr,zk prog 92 #[zl #[zf (zc ⟨b,o,zb⟩) ns.length c,zf (zc ⟨gl,0,zb⟩) ns.length cl,zf (zc ⟨gr,0,zb⟩) ns.length cr,.string t],ze .i64 x,ze .i64 i,ze .i64 kk] s.W λe w'=>e=.returned (.bool true)/\∃s':dy wr,w'=s'.W:=λs=>(Gq kk s.W (aj dY dY.size s.h) iZ).mono λe w' ⟨q,he,hq,hb⟩=>⟨by rw[he,show q=true from(by first|exact hq.2 HA.out|exact Md hq HA.out)],⟨⟨w',aj s.h s.h.size hb⟩,rfl⟩⟩
    have JT:∀s:dy wr,zk prog 92 #[zl #[zf (zc ⟨b,o,zb⟩) ns.length c,zf (zc ⟨gl,0,zb⟩) ns.length cl,zf (zc ⟨gr,0,zb⟩) ns.length cr,.string t],ze .i64 y,ze .i64 kk,ze .i64 j] s.W λe w'=>e=.returned (.bool false)/\∃s':dy wr,w'=s'.W:=λs=>(JR kk s.W (aj dY dY.size s.h) iZ).mono λe w' ⟨q,he,hq,hb⟩=>⟨by rw[he,show q=false from(by first|exact hq.2 kN.out|exact Md hq kN.out)],⟨⟨w',aj s.h s.h.size hb⟩,rfl⟩⟩
    refine xM 21 (λw'=>∃s:dy wr,w'=s.W) (by kernel_rfl) ⟨⟨wr.drew,⟨rfl,rfl,rfl,ai _,λ_ _=>rfl⟩⟩,rfl⟩ (by decide) (by kernel_rfl) ?_;intro os ck;simp only[nE,tV]at ck;subst ck
    repeat (go_big_quiet_step (first|(go_at_call_of 92 (Value.int IntKind.i64 (x:Int));exact xa _)|(go_at_call_of 92 (Value.int IntKind.i64 (y:Int));exact JT _)))
    refine wpQuiet_nil ?_;rintro w6 ⟨⟨Wb,dz⟩,rfl⟩ r hr;simp only[wM,wN]at hr;subst hr;have H6:jE w (zf (zc ⟨b,o,zb⟩) ns.length c) (zf (zc ⟨gl,0,zb⟩) ns.length cl) (zf (zc ⟨gr,0,zb⟩) ns.length cr) (.string t) (ze .i64 2) (.slice bH nd.set.length bI) (ze .i64 nd.min) (ze .i64 nd.max) (ze .i64 nd.group) gl gr n (ze .i64 x) (ze .i64 y) w6:=jE.call ⟨dY,CI,zU,zV,zW,zX,B2,B3,B4,B5,B7,lA,rA,hlt,hrt⟩ dz;have P6:zh _:=H6;clear H6 xa JT Gq JR cV mP x0 x1 x2 x3 x4 x5 dY CI zU zV zW zX B2 B3 B4 B5 B7 lA rA;go_wp2
    go_roundw
    case rel=>exact⟨kk-1,by omega,by omega,by go_num,P6.out⟩
    case measure=>simp[intOf];omega
   ·have HA:zh (¬Lg t.data.toList (aK ns x) i kk):=hA;clear hA;have xa:∀s:dy wr,zk prog 92 #[zl #[zf (zc ⟨b,o,zb⟩) ns.length c,zf (zc ⟨gl,0,zb⟩) ns.length cl,zf (zc ⟨gr,0,zb⟩) ns.length cr,.string t],ze .i64 x,ze .i64 i,ze .i64 kk] s.W λe w'=>e=.returned (.bool false)/\∃s':dy wr,w'=s'.W:=λs=>(Gq kk s.W (aj dY dY.size s.h) iZ).mono λe w' ⟨q,he,hq,hb⟩=>⟨by rw[he,show q=false from(by first|exact hq.2 HA.out|exact Md hq HA.out)],⟨⟨w',aj s.h s.h.size hb⟩,rfl⟩⟩
    refine xM 21 (λw'=>∃s:dy wr,w'=s.W) (by kernel_rfl) ⟨⟨wr.drew,⟨rfl,rfl,rfl,ai _,λ_ _=>rfl⟩⟩,rfl⟩ (by decide) (by kernel_rfl) ?_;intro os ck;simp only[nE,tV]at ck;subst ck
    repeat (go_big_quiet_step (first|(go_at_call_of 92 (Value.int IntKind.i64 (x:Int));exact xa _)))
    refine wpQuiet_nil ?_;rintro w6 ⟨⟨Wb,dz⟩,rfl⟩ r hr;simp only[wM,wN]at hr;subst hr;have H6:jE w (zf (zc ⟨b,o,zb⟩) ns.length c) (zf (zc ⟨gl,0,zb⟩) ns.length cl) (zf (zc ⟨gr,0,zb⟩) ns.length cr) (.string t) (ze .i64 2) (.slice bH nd.set.length bI) (ze .i64 nd.min) (ze .i64 nd.max) (ze .i64 nd.group) gl gr n (ze .i64 x) (ze .i64 y) w6:=jE.call ⟨dY,CI,zU,zV,zW,zX,B2,B3,B4,B5,B7,lA,rA,hlt,hrt⟩ dz;have P6:zh _:=H6;clear H6 xa Gq JR cV mP x0 x1 x2 x3 x4 x5 dY CI zU zV zW zX B2 B3 B4 B5 B7 lA rA;go_wp2
    go_roundw
    case rel=>exact⟨kk-1,by omega,by omega,by go_num,P6.out⟩
    case measure=>simp[intOf];omega
end
section
attribute [local go_sem ↓] wp_at_zero wp_at_succ
theorem zsD(ns:List aM)(x:Nat)(hE:jB ns x)(t:ByteArray)(mx:Int)(hp:0<mx)(i j:Nat)(hn:∀k,i<=k->k<=j->¬(Lg t.data.toList (aK ns x) i k/\Lg t.data.toList (.aw (aK ns x) ((0:Nat):Int) (mx-1)) k j)):vr ns x t 0 mx i j []:=by
 intro w ao c gl cl gr cr B g cap m sp aB az hsm hB fk cO dA fj ht hg mS hmx;obtain⟨W0,ah⟩:∃W0,w.alloc (zj #[.slice ao ns.length c,zf (zc ⟨gl,0,zb⟩) ns.length cl,zf (zc ⟨gr,0,zb⟩) ns.length cr,.string t] 119)=W0:=⟨_,rfl⟩;have ae:zg w.heap.size w W0:=by rw[<-ah];exact au
 have k0:W0.heap[w.heap.size]?=zc (sD ao ns c gl cl gr cr t):=by rw[<-ah];exact aL _ _
 have lz:decide (0<mx)=true:=by simp[hp]
 have AB:(mx==0)=false:=by simp;omega
 have GB:(mx == -1)=false:=by simp;omega
 have rB:=λ(kk:Nat) (W:zi) (hb:zg w.heap.size w W) (bC:kk<=t.size)=>Df ns x hE W ao c gl cl gr cr t i kk (aB.below hb) (by omega) bC ht
 have qo:=λ(kk:Nat) (W:zi) (hb:zg w.heap.size w W) (bC:kk<=t.size)=>Mh ns x hE W ao c gl cl gr cr t 0 (mx-1) kk j (by omega) (by omega) (aB.below hb) bC fj ht
 have Hn:zh (∀k,i<=k->k<=j->¬(Lg t.data.toList (aK ns x) i k/\Lg t.data.toList (.aw (aK ns x) ((0:Nat):Int) (mx-1)) k j)):=hn;clear hn hE aB hg;simp only[show ((0:Nat):Int)=0 from rfl]at qo ⊢
 go_enter func93,ntmps93
 go_wp2;clear ah
 go_loopw [18] (λk wr=>((∃kk:Nat,i<=kk/\kk<=j/\k=ze .i64 kk)\/k=ze .i64 ((i:Int)-1))/\zg w.heap.size w wr/\wr.heap[w.heap.size]?=zc (sD ao ns c gl cl gr cr t))
  (λk _=>(intOf k+1).toNat)
 case atStart=>exact⟨.inl ⟨j,dA,ai _,rfl⟩,ae,k0⟩
 case round=>
  clear k0;obtain⟨⟨kk,cM,iA,rfl⟩|rfl,aB,kr⟩:=hrel
  ·obtain⟨a0,a1,a2,a3⟩:=gC kr;have iZ:kk<=t.size:=by omega
   have N4:(i:Int)<=(kk:Int):=by omega
   go_wp2_with fail
   refine(rB kk _ aB iZ).mono ?_;rintro e w4 ⟨q,rfl,hq,aG⟩;have lm:zh (q=true↔Lg t.data.toList (aK ns x) i kk):=hq;clear hq;have kB:=ia kr aG;have iK:=aj aB aB.size aG;obtain⟨c0,c1,c2,c3⟩:=gC kB;have rf:zh ((∃k2:Nat,i<=k2/\k2<=j/\Value.int .i64 ((kk:Int)-1)=Value.int .i64 (k2:Int))\/Value.int .i64 ((kk:Int)-1)=Value.int .i64 ((i:Int)-1)):=by
    rcases gh i kk with h|h
    ·exact .inl ⟨kk-1,by omega,by omega,by congr 1;omega⟩
    ·exact .inr (by congr 1;omega)
   clear a0 a1 a2 a3 kr aB aG;cases q
   ·go_wp2
    go_roundw
    case rel=>exact⟨rf.out,iK,kB⟩
    case measure=>first|(simp[intOf];done)|(simp[intOf];omega)
   ·go_wp2_with fail
    refine(qo kk _ iK iZ).mono ?_;rintro e w5 ⟨q,rfl,hq,bE⟩;have pR:=ia kB bE;have pJ:=aj iK iK.size bE;obtain rfl:q=false:=zqG hq λh=>Hn.out kk cM iA ⟨lm.out.1 (by first|trivial|rfl),h⟩
    clear c0 c1 c2 c3 kB iK bE hq;go_wp2
    go_roundw
    case rel=>exact⟨rf.out,pJ,pR⟩
    case measure=>first|(simp[intOf];done)|(simp[intOf];omega)
  ·have zz4:¬(i:Int)<=(i:Int)-1:=by omega
   have zz5:decide ((i:Int)<=(i:Int)-1)=false:=by simp;omega
   go_wp2;exact bD (v:=zf (zc ⟨g,0,zb⟩) m cap) (by simp[results,results93,go_sem]) rfl ⟨g,cap,rfl,cI az aB,aB⟩
theorem zm3(ns:List aM)(x:Nat)(hE:jB ns x)(hX:pD ns x)(t:ByteArray)(mn:Nat)(mx:Int)(i j:Nat)(l:List Up)(h:ie (Lg t.data.toList (aK ns x)) (Pl t.data.toList (aK ns x)) (λmn mx i j=>Lg t.data.toList (.aw (aK ns x) mn mx) i j) mn mx i j l)(hb:mx=-1\/(mn:Int)<=mx):vr ns x t mn mx i j l:=by
 induction h with
 |done i j=>exact zqK ns x t 0 0 i j ⟨rfl,rfl⟩
 |pk i=>exact zqM ns x t 0 (-1) i i ⟨rfl,rfl,rfl⟩
 |out mx i j hm hn=>exact zsD ns x hE t mx hm i j hn
 |must mn mx i j k l1 l2 g h1 h2 ih=>
  by_cases hp:0<mx
  ·simp only[aD hp]at g h2 ih;exact zow ns x hE hX t (mn+1) mn mx rfl hp i j k l1 l2 g h1 (ih (by omega))
  ·obtain rfl:mx=-1:=by omega
   simp only[aq hp]at g h2 ih;exact zov ns x hE hX t (mn+1) mn rfl i j k l1 l2 g h1 (ih (by simp))
 |may mx i j k l1 l2 hm g h1 h2 ih=>exact zsC ns x hE hX t mx hm i j k l1 l2 g h1 (ih (by omega))
 |more i j k l1 l2 hi g h1 h2 ih=>exact zqL ns x hE hX t i j k l1 l2 g h1 (ih (by simp))
theorem zrB(ns:List aM)(n x mn:Nat)(hn:n<ns.length)(hk:bJ ns n=4)(hT:aK ns n=.aw (aK ns x) mn (ns.getD n .zero).max)(hL:lh ns n=x)(hE:jB ns x)(hX:pD ns x)(cO:(ns.getD n .zero).min=mn)(cD:mn<=255)(vQ:(ns.getD n .zero).max=-1\/((mn:Int)<=(ns.getD n .zero).max/\(ns.getD n .zero).max<=255)):pD ns n:=by
 intro w ao c gl cl gr cr t B i j g cap m sp l aB az hsm hB fk AJ dA fj ht hg du;rw[hT]at du;obtain⟨iG,fe,hv,AK,hc⟩:=aB.nodes;cases hv;obtain⟨b,o,sv,nd,rfl,Hn,bu,c0,c1,c2,c3,c4,di⟩:=hc.elem (Below.refl _ _) hn;have cM:nd.kind=4:=by rw[<-hk];unfold bJ;rw[Hn.out]
 rw[cM]at c0;obtain⟨bH,bI,rfl,Eu,jQ⟩:=di;have l0:=aB.left n hn;rw[hL]at l0;have r0:=aB.right n hn;obtain⟨ri,xz⟩:∃ri,oh ns n=ri:=⟨_,rfl⟩;rw[xz]at r0;have hlt:=aB.za;have hrt:=aB.zd;have dO:(0:Int)<=(n:Int):=by omega
 have dh:(n:Int)<(ns.length:Int):=by omega
 obtain⟨W0,ah⟩:∃W0,(w.alloc (zj #[zf (zc ⟨b,o,zb⟩) ns.length c,zf (zc ⟨gl,0,zb⟩) ns.length cl,zf (zc ⟨gr,0,zb⟩) ns.length cr,.string t] 119)).alloc (zj #[ze .i64 4,.slice bH nd.set.length bI,ze .i64 nd.min,ze .i64 nd.max,ze .i64 nd.group] 149)=W0:=⟨_,rfl⟩;have ae:zg w.heap.size w W0:=by rw[<-ah];exact(au).alloc (by simp) _
 have k1:W0.heap[w.heap.size]?=zc (zj #[zf (zc ⟨b,o,zb⟩) ns.length c,zf (zc ⟨gl,0,zb⟩) ns.length cl,zf (zc ⟨gr,0,zb⟩) ns.length cr,.string t] 119 (0,0)):=by rw[<-ah];exact cQ (aL _ _)
 have k2:W0.heap[w.heap.size+1]?=zc (zj #[ze .i64 4,.slice bH nd.set.length bI,ze .i64 nd.min,ze .i64 nd.max,ze .i64 nd.group] 149 (0,0)):=by rw[<-ah];exact Dc _ _ _
 obtain⟨p0,p1,p2,p3⟩:=gC k1;obtain⟨q0,q1,q2,q3,q4⟩:=EW k2;have bX:w.heap.size+1<W0.heap.size:=uV k2;rw[Hn.out]at du cO vQ;have du:ie (Lg t.data.toList (aK ns x)) (Pl t.data.toList (aK ns x)) (λmn mx i j=>Lg t.data.toList (.aw (aK ns x) mn mx) i j) mn nd.max i j l:=by
  have h:=du;simp only[Pl,sx]at h;exact h
 have hC:=zm3 ns x hE hX t mn nd.max i j l du (by omega);have cV:=λ(W:zi) (hb:zg w.heap.size w W)=>hC W (zc ⟨b,o,zb⟩) c gl cl gr cr B g cap m sp (aB.below hb) (cI az hb) hsm (aU hB hb.size) fk AJ dA fj ht hg cD vQ
 have H0:jE w (zf (zc ⟨b,o,zb⟩) ns.length c) (zf (zc ⟨gl,0,zb⟩) ns.length cl) (zf (zc ⟨gr,0,zb⟩) ns.length cr) (.string t) (ze .i64 4) (.slice bH nd.set.length bI) (ze .i64 nd.min) (ze .i64 nd.max) (ze .i64 nd.group) gl gr n (ze .i64 x) (ze .i64 ri) W0:=⟨ae,bX,p0,p1,p2,p3,q0,q1,q2,q3,q4,(ae.cell (p:=⟨gl,n,zb⟩) hlt).trans l0,(ae.cell (p:=⟨gr,n,zb⟩) hrt).trans r0,hlt,hrt⟩;rw[cO]at H0 c2 ah;have H1:=H0.call ((Below.refl W0.heap.size W0).drew);clear hT hk cM hc jQ aB hX hE hC du hg xz vQ k1 k2 p0 p1 p2 p3 q0 q1 q2 q3 q4 l0 r0 cO;obtain⟨-,-,a0,a1,a2,a3,d0,d1,d2,d3,d4,lA,rA,-,-⟩:=H0
 go_enter func66,ntmps66
 go_wp2;clear a0 a1 a2 a3 d0 d1 d2 d3 d4 lA rA ah c0 c1 c2 c3 c4;have dr:=H1.1;obtain⟨-,KE,DG,DI,DJ,DK,JA,JB,DO,DR,JC,lC,rC,-,-⟩:=H1
 go_region_held3 (λw'=>zg w.heap.size w w'/\w'.cell? ⟨w.heap.size,0,zb⟩=zc (zf (zc ⟨b,o,zb⟩) ns.length c)/\w'.cell? ⟨w.heap.size,1,zb⟩=zc (zf (zc ⟨gl,0,zb⟩) ns.length cl)/\w'.cell? ⟨w.heap.size,2,zb⟩=zc (zf (zc ⟨gr,0,zb⟩) ns.length cr)/\w'.cell? ⟨w.heap.size,3,zb⟩=zc (.string t)/\w'.cell? ⟨gl,n,zb⟩=zc (ze .i64 x)/\w'.cell? ⟨w.heap.size+1,2,zb⟩=zc (ze .i64 mn)/\w'.cell? ⟨w.heap.size+1,3,zb⟩=zc (ze .i64 nd.max)) ((first|exact⟨dr,DG,DI,DJ,DK,lC,DO,DR⟩|(exact⟨aj dr dr.size dX,(dX.cell (p:=⟨w.heap.size,0,zb⟩) (by show w.heap.size<_;omega)).trans DG,(dX.cell (p:=⟨w.heap.size,1,zb⟩) (by show w.heap.size<_;omega)).trans DI,(dX.cell (p:=⟨w.heap.size,2,zb⟩) (by show w.heap.size<_;omega)).trans DJ,(dX.cell (p:=⟨w.heap.size,3,zb⟩) (by show w.heap.size<_;omega)).trans DK,(dX.cell (p:=⟨gl,n,zb⟩) (by have:=dr.size;show gl<_;omega)).trans lC,(dX.cell (p:=⟨w.heap.size+1,2,zb⟩) (by show w.heap.size+1<_;omega)).trans DO,(dX.cell (p:=⟨w.heap.size+1,3,zb⟩) (by show w.heap.size+1<_;omega)).trans DR⟩)|go_keep)) ((go_at_call 93;refine(cV _ (by first|exact dr|exact(‹zg w.heap.size w _/\_›).1)).mono ?_;rintro e w8 ⟨g8,fB,rfl,kD,dX⟩))
 all_goals
  have bj:=aj dr dr.size dX;go_wp2;exact bD (v:=zf (zc ⟨g8,0,zb⟩) m fB) (by simp[results,results66,go_sem]) rfl ⟨g8,fB,rfl,kD,bj⟩
end
theorem zgY:∀(l:List Int),l.Nodup->∀x,l.count x<=1
 |[],_,x=>by simp
 |a::l,h,x=>by
  obtain⟨h1,h2⟩:=List.nodup_cons.1 h;have ih:=zgY l h2 x;rw[List.count_cons]
  by_cases e:a=x
  ·subst e;rw[List.count_eq_zero_of_not_mem h1];simp
  ·have:(a==x)=false:=eu.2 e;rw[this];simp;exact ih
theorem zgB:∀(l:List Int),(∀x,x∈l->l.count x<=1)->l.Nodup
 |[],_=>List.nodup_nil
 |a::l,h=>by
  refine List.nodup_cons.2 ⟨λhm=>?_,zgB l λx hx=>?_⟩
  ·have h1:=h a (Bp ..);rw[List.count_cons_self]at h1;have:=List.count_pos_iff.2 hm;omega
  ·have h1:=h x (yc _ hx);have:=List.count_le_count_cons (a:=x) (b:=a) (l:=l);omega
theorem Vt(G:Int):∀(gs done:List Int),px G done gs=true↔(∀x,x∈gs->1<=x/\x<=G)/\(∀x,x∈gs->x∉done)/\gs.Nodup/\((done.length:Int)+gs.length=G)
 |[],done=>by simp[px]
 |g::gs,done=>by
  unfold px
  by_cases hc:g<1\/G<g\/g∈done
  ·rw[aD hc];constructor
   ·intro h;cases h
   ·rintro ⟨h1,h2,_,_⟩;have a1:=h1 g (Bp ..);have a2:=h2 g (Bp ..);rcases hc with h|h|h
    ·omega
    ·omega
    ·exact absurd h a2
  ·rw[aq hc,Vt G gs (g::done)];constructor
   ·rintro ⟨h1,h2,h3,h4⟩;refine⟨λx hx=>?_,λx hx=>?_,?_,?_⟩
    ·rcases oB.1 hx with rfl|hx
     ·omega
     ·exact h1 x hx
    ·rcases oB.1 hx with rfl|hx
     ·exact λh=>hc (.inr (.inr h))
     ·exact λh=>h2 x hx (yc _ h)
    ·exact List.nodup_cons.2 ⟨λhm=>h2 g hm (Bp ..),h3⟩
    ·simp at h4 ⊢;omega
   ·rintro ⟨h1,h2,h3,h4⟩;obtain⟨h5,h6⟩:=List.nodup_cons.1 h3;refine⟨λx hx=>h1 x (yc _ hx),λx hx hm=>?_,h6,?_⟩
    ·rcases oB.1 hm with rfl|hm
     ·exact h5 hx
     ·exact h2 x (yc _ hx) hm
    ·simp at h4 ⊢;omega
def Ae(gs:List Int):Nat->Nat
 |0=>0
 |n+1=>Ae gs n+gs.count ((n:Int)+1)
def qC(n:Nat)(x:Int):Bool:=decide (1<=x/\x<=n)
theorem zgE(n:Nat):∀gs:List Int,(gs.filter (qC (n+1))).length=(gs.filter (qC n)).length+gs.count ((n:Int)+1)
 |[]=>rfl
 |g::gs=>by
  have ih:=zgE n gs;rw[List.filter_cons,List.filter_cons,List.count_cons]
  by_cases e:g=(n:Int)+1
  ·have h1:qC (n+1) g=true:=by simp[qC];omega
   have h2:qC n g=false:=by simp[qC];omega
   have h3:(g==(n:Int)+1)=true:=beq_iff_eq.2 e;rw[h1,h2,h3];simp;omega
  ·have h3:(g==(n:Int)+1)=false:=eu.2 e;have h1:qC (n+1) g=qC n g:=by simp only[qC];rw[decide_eq_decide];omega
   rw[h1,h3]
   by_cases h2:qC n g=true
   ·rw[aD h2,aD h2];simp;omega
   ·rw[aq h2,aq h2];simp;omega
theorem WY(gs:List Int):∀n,Ae gs n=(gs.filter (qC n)).length
 |0=>by
  have:gs.filter (qC 0)=[]:=List.filter_eq_nil_iff.2 λx _=>by simp[qC];omega
  rw[this];rfl
 |n+1=>by rw[Ae,WY gs n,zgE]
theorem zsd(gs:List Int)(h:∀x,gs.count x<=1):∀n,Ae gs n<=n
 |0=>ai _
 |n+1=>by have:=zsd gs h n;have:=h ((n:Int)+1);rw[Ae];omega
theorem zor(gs:List Int)(h:∀x,gs.count x<=1):∀n,Ae gs n=n->∀i,i<n->gs.count ((i:Int)+1)=1
 |0,_,i,hi=>absurd hi (dk _)
 |n+1,he,i,hi=>by
  have h1:=zsd gs h n;have h2:=h ((n:Int)+1);rw[Ae]at he
  by_cases e:i=n
  ·subst e;omega
  ·exact zor gs h n (by omega) i (by omega)
theorem zl2(gs:List Int):∀n:Nat,(∀i:Nat,i<n->gs.count ((i:Int)+1)=1)->Ae gs n=n
 |0,_=>rfl
 |n+1,h=>by rw[Ae,zl2 gs n λi hi=>h i (by omega),h n (by omega)]
theorem zgM(G:Int)(hG:0<=G)(gs:List Int):px G [] gs=(((gs.length:Int)==G)&&zy G gs):=by
 obtain⟨n,rfl⟩:=Int.eq_ofNat_of_zero_le hG;have key:px (n:Int) [] gs=true↔(gs.length=n/\∀i,i<n->gs.count ((i:Int)+1)=1):=by
  rw[Vt];constructor
  ·rintro ⟨h1,_,h3,h4⟩;have hl:gs.length=n:=by simp at h4;omega
   refine⟨hl,?_⟩;have hc:=zgY gs h3;refine zor gs hc n ?_;rw[WY,List.filter_eq_self.2 λx hx=>by have:=h1 x hx;simp[qC];omega];exact hl
  ·rintro ⟨hl,h1⟩;have he:=zl2 gs n h1;rw[WY]at he;have hf:gs.filter (qC n)=gs:=List.Sublist.eq_of_length_le List.filter_sublist (by omega);have hr:∀x,x∈gs->1<=x/\x<=(n:Int):=by
    intro x hx;have:=List.filter_eq_self.1 hf x hx
    simpa [qC]using this
   refine⟨hr,λ_ _ h=>by simp at h,zgB gs λx hx=>?_,by simp;omega⟩;have mj:=hr x hx;have:=h1 (x-1).toNat (by omega);rw[show (((x-1).toNat:Nat):Int)+1=x by omega]at this;omega
 have zwI:(((gs.length:Int)==(n:Int))&&zy (n:Int) gs)=true↔(gs.length=n/\∀i,i<n->gs.count ((i:Int)+1)=1):=by
  rw[dE,beq_iff_eq];unfold zy;rw[jl];constructor
  ·rintro ⟨h1,h2⟩;exact⟨by omega,λi hi=>by simpa using h2 i (by simpa using hi)⟩
  ·rintro ⟨h1,h2⟩;exact⟨by omega,λi hi=>by simpa using h2 i (by simpa using hi)⟩
 cases ha:px (n:Int) [] gs<;>cases hb:(((gs.length:Int)==(n:Int))&&zy (n:Int) gs)
 ·rfl
 ·rw[key.2 (zwI.1 hb)]at ha;cases ha
 ·rw[zwI.2 (key.1 ha)]at hb;cases hb
 ·rfl
theorem Vw:∀bs:List aW,nM bs=true->jz bs=zc (bs.map Bj)
 |[],_=>rfl
 |b::bs,h=>by
  unfold nM at h;rw[List.all_cons,dE]at h;obtain⟨h1,h2⟩:=h;rw[dE]at h1;have ih:=Vw bs h2;have hl:=(Wi b.nodes h1.1 (LU h1.1) h1.2).2;unfold jz;rw[hl,ih]
  rfl
theorem Vv:∀bs:List aW,nM bs=false->jz bs=zb
 |[],h=>by simp[nM]at h
 |b::bs,h=>by
  unfold jz
  by_cases hb:(jW b.nodes&&b.nodes.all aX)=true
  ·have h2:nM bs=false:=by
    unfold nM at h ⊢;rw[List.all_cons,hb,kM]at h;exact h
   rw[Vv bs h2];cases tR b.nodes<;>rfl
  ·rw[zrg b.nodes (by
    cases hk:jW b.nodes
    ·exact .inl rfl
    ·right
     cases ha:b.nodes.all aX
     ·rfl
     ·rw[hk,ha]at hb;exact absurd rfl hb)]
theorem Wf:∀(st:List Int) (s:Int),0<=s->s<=2001->(∀x,x∈st->0<=x)->st.foldl (λs a=>cJ (s+a)) s=cJ (s+st.sum)
 |[],s,h0,h1,_=>by simp[Fk h1]
 |a::st,s,h0,h1,h=>by
  have ha:=h a (Bp ..);have hc:=zgz (show 0<=s+a by omega);rw[List.foldl_cons,Wf st (cJ (s+a)) hc.1 hc.2 λx hx=>h x (yc _ hx),List.sum_cons];have hs:0<=st.sum:=by
   have:∀l:List Int,(∀x,x∈l->0<=x)->0<=l.sum:=by
    intro l
    induction l with
    |nil=>intro _;simp
    |cons b l ih=>intro hl;have:=ih λx hx=>hl x (yc _ hx);have:=hl b (Bp ..);rw[List.sum_cons];omega
   exact this st λx hx=>h x (yc _ hx)
  unfold cJ;split<;>split<;>split<;>omega
theorem V2:∀bs:List aW,jU bs=(bs.map Bj).sum
 |[]=>rfl
 |b::bs=>by rw[jU,V2 bs];simp
theorem zkF(bs:List aW)(h:nM bs=true):decide (iF (bs.map Bj)<=2000)=decide (jU bs<=2000):=by
 unfold iF;rw[Wf _ 0 (by omega) (by omega) (by
  intro x hx;obtain⟨b,hb,rfl⟩:=sy.1 hx;have:=jl.1 h b hb;rw[dE]at this;have:=Py this.1 (LU this.1) this.2;omega),<-V2,Int.zero_add,decide_eq_decide]
 unfold cJ;split<;>omega
theorem zp4(G:Int)(bs:List aW):qf G bs=gD G bs:=by
 unfold qf gD
 by_cases hG:0<=G/\G<=500
 ·rw[zgM G hG.1];cases ha:nM bs
  ·rw[Vv bs ha];simp
  ·rw[Vw bs ha];simp only[zkF bs ha,Bool.and_true];cases decide (1<=bs.length/\bs.length<=2000)<;>cases decide (0<=G/\G<=500)<;>cases decide (ir bs<=5000)<;>cases ((fP bs).length:Int)==G<;>simp
 ·have:decide (0<=G/\G<=500)=false:=by simpa using hG
  rw[this];simp
section
attribute [local go_sem ↓] wp_at_zero wp_at_succ
def Ah:Pt->Int->Prop
 |.set _,_=>False
 |.seq p q,x=>Ah p x\/Ah q x
 |.aQ p q,x=>Ah p x\/Ah q x
 |.aw b _ _,x=>Ah b x
 |.aT b g,x=>x=g\/Ah b x
theorem C9{u:aJ}:∀(p:Pt) (i j:Nat) (l:List Up),Pl u p i j l->∀x∈l,Ah p x.1
 |.set _,_,_,l,h,x,hx=>by have h:l=[]:=h;subst h;cases hx
 |.aT b g,i,j,l,⟨m,e,h⟩,x,hx=>by
  subst e;rcases oB.1 hx with rfl|hx
  ·exact .inl rfl
  ·exact .inr (C9 b i j m h x hx)
 |.seq p q,i,j,l,⟨k,l1,l2,_,h1,h2,e⟩,x,hx=>by
  subst e;rcases er.1 hx with hx|hx
  ·exact .inl (C9 p i k l1 h1 x hx)
  ·exact .inr (C9 q k j l2 h2 x hx)
 |.aQ p q,i,j,l,h,x,hx=>by
  rcases h with ⟨_,h⟩|⟨_,h⟩
  ·exact .inl (C9 p i j l h x hx)
  ·exact .inr (C9 q i j l h x hx)
 |.aw b mn mx,i,j,l,h,x,hx=>by
  replace h:ie (Lg u b) (Pl u b) (λmn mx i j=>Lg u (.aw b mn mx) i j) mn.toNat mx i j l:=h;show Ah b x.1;have ih:=C9 (u:=u) b;generalize mn.toNat=n at h
  induction h with
  |done=>cases hx
  |pk=>cases hx
  |out=>cases hx
  |must _ _ i j k l1 l2 _ h1 _ xE=>
   rcases er.1 hx with hx|hx
   ·exact ih i k l1 h1 x hx
   ·exact xE hx
  |may _ i j k l1 l2 _ _ h1 _ xE=>
   rcases er.1 hx with hx|hx
   ·exact ih i k l1 h1 x hx
   ·exact xE hx
  |more i j k l1 l2 _ _ h1 _ xE=>
   rcases er.1 hx with hx|hx
   ·exact ih i k l1 h1 x hx
   ·exact xE hx
theorem zo1:∀(ns:List aM) (n:Nat),n<ns.length->(ns.getD n .zero).kind=5->(ns.getD n .zero).group∈aT ns
 |a::ns,0,_,h=>by
  have h:a.kind=5:=h;show a.group∈aT (a::ns);rw[aT,aD h];simp
 |a::ns,n+1,hn,h=>by
  have:=zo1 ns n (by simpa using hn) h;show (ns.getD n .zero).group∈aT (a::ns);rw[aT];split
  ·exact yc _ this
  ·exact this
theorem VG:∀(bs:List aW) (k:Nat),k<bs.length->∀x∈aT (bs.getD k .zero).nodes,x∈fP bs
 |b::bs,0,_,x,h=>er.2 (.inl h)
 |b::bs,k+1,hk,x,h=>er.2 (.inr (VG bs k (by simpa using hk) x h))
theorem zhh{G:Int}{bs:List aW}(h:gD G bs=true):∀x∈fP bs,1<=x/\x<=G:=by
 unfold gD at h;simp only[dE,oD]at h;obtain⟨⟨⟨⟨⟨⟨_,h2⟩,_⟩,_⟩,h5⟩,h6⟩,_⟩:=h;have:=zgM G h2.1 (fP bs);rw[h5,h6]at this;exact((Vt G (fP bs) []).1 this).1
theorem zpK(ns:List aM)(ha:∀i,i<ns.length->bi (bJ ns i)<=(aN ns i).length)(hb:ns.all aX=true):∀n,n<ns.length->pD ns n:=by
 intro n
 induction n using Nat.strongRecOn with
 |ind n ih=>
  intro hn;have jP:aX (ns.getD n .zero)=true:=jl.1 hb (ns.getD n .zero) (by
   rw[cL,eY hn];exact oz _)
  have eB:=ha n hn;have cA:bJ ns n=(ns.getD n .zero).kind:=rfl
  by_cases h1:bJ ns n=1
  ·refine zrD ns n hn h1 ?_;unfold aK fY;rw[aD (by rw[<-cA];exact h1)]
  by_cases h2:bJ ns n=2
  ·obtain⟨x,y,hL,hR,hx,hy,hT⟩:=Ig (ns:=ns) (k:=n) (by rw[h2];rfl) (by rw[h2]at eB;exact eB);refine zrC ns n x y hn h2 ?_ hL hR (Ma ns ha hb x (by omega)) (Ma ns ha hb y (by omega)) (ih x hx (by omega)) (ih y hy (by omega));rw[hT];unfold fY;rw[aq (by rw[<-cA];exact h1),aD (by rw[<-cA];exact h2)]
   rfl
  by_cases h3:bJ ns n=3
  ·obtain⟨x,y,hL,hR,hx,hy,hT⟩:=Ig (ns:=ns) (k:=n) (by rw[h3];rfl) (by rw[h3]at eB;exact eB);refine zrz ns n x y hn h3 ?_ hL hR (Ma ns ha hb x (by omega)) (ih x hx (by omega)) (ih y hy (by omega));rw[hT];unfold fY;rw[aq (by rw[<-cA];exact h1),aq (by rw[<-cA];exact h2),aD (by rw[<-cA];exact h3)]
   rfl
  by_cases h4:bJ ns n=4
  ·obtain⟨x,hL,hx,hT⟩:=If (ns:=ns) (k:=n) (by rw[h4];rfl) (by rw[h4]at eB;exact eB);have dZ:eK (ns.getD n .zero).min (ns.getD n .zero).max=true:=by
    unfold aX at jP;rw[aq (by rw[<-cA];exact h1),aq (by rw[<-cA];exact λh=>h.elim h2 h3),aD (by rw[<-cA];exact h4)]at jP;simp only[dE]at jP;exact jP.1.2
   simp[eK]at dZ;refine zrB ns n x (ns.getD n .zero).min.toNat hn h4 ?_ hL (Ma ns ha hb x (by omega)) (ih x hx (by omega)) (by simp only[cL];omega) (by simp only[cL];omega) (by simp only[cL];omega);rw[hT];unfold fY;rw[aq (by rw[<-cA];exact h1),aq (by rw[<-cA];exact h2),aq (by rw[<-cA];exact h3),aD (by rw[<-cA];exact h4)];have:(((ns.getD n .zero).min.toNat:Nat):Int)=(ns.getD n .zero).min:=by simp only[cL];omega
   rw[this]
   rfl
  have h5:bJ ns n=5:=by
   by_cases h5:bJ ns n=5
   ·exact h5
   ·exfalso
    unfold aX at jP;rw[aq (by rw[<-cA];exact h1),aq (by rw[<-cA];exact λh=>h.elim h2 h3),aq (by rw[<-cA];exact h4),aq (by rw[<-cA];exact h5)]at jP;cases jP
  obtain⟨x,hL,hx,hT⟩:=If (ns:=ns) (k:=n) (by rw[h5];rfl) (by rw[h5]at eB;exact eB);refine zrA ns n x hn h5 ?_ hL (ih x hx (by omega));rw[hT];unfold fY;rw[aq (by rw[<-cA];exact h1),aq (by rw[<-cA];exact h2),aq (by rw[<-cA];exact h3),aq (by rw[<-cA];exact h4)]
  rfl
theorem WD(ns:List aM)(ha:∀i,i<ns.length->bi (bJ ns i)<=(aN ns i).length)(hb:ns.all aX=true):∀n,n<ns.length->oO (aK ns n)/\∀x,Ah (aK ns n) x->x∈aT ns:=by
 intro n
 induction n using Nat.strongRecOn with
 |ind n ih=>
  intro hn;have jP:aX (ns.getD n .zero)=true:=jl.1 hb (ns.getD n .zero) (by
   rw[cL,eY hn];exact oz _)
  have eB:=ha n hn;have cA:bJ ns n=(ns.getD n .zero).kind:=rfl
  by_cases h1:bJ ns n=1
  ·unfold aK fY;rw[aD (by rw[<-cA];exact h1)];exact⟨trivial,λx h=>h.elim⟩
  by_cases h2:bJ ns n=2
  ·obtain⟨x,y,hL,hR,hx,hy,hT⟩:=Ig (ns:=ns) (k:=n) (by rw[h2];rfl) (by rw[h2]at eB;exact eB);have i1:=ih x hx (by omega);have i2:=ih y hy (by omega);rw[hT];unfold fY;rw[aq (by rw[<-cA];exact h1),aD (by rw[<-cA];exact h2)];exact⟨⟨i1.1,i2.1⟩,λz h=>h.elim (i1.2 z) (i2.2 z)⟩
  by_cases h3:bJ ns n=3
  ·obtain⟨x,y,hL,hR,hx,hy,hT⟩:=Ig (ns:=ns) (k:=n) (by rw[h3];rfl) (by rw[h3]at eB;exact eB);have i1:=ih x hx (by omega);have i2:=ih y hy (by omega);rw[hT];unfold fY;rw[aq (by rw[<-cA];exact h1),aq (by rw[<-cA];exact h2),aD (by rw[<-cA];exact h3)];exact⟨⟨i1.1,i2.1⟩,λz h=>h.elim (i1.2 z) (i2.2 z)⟩
  by_cases h4:bJ ns n=4
  ·obtain⟨x,hL,hx,hT⟩:=If (ns:=ns) (k:=n) (by rw[h4];rfl) (by rw[h4]at eB;exact eB);have dZ:eK (ns.getD n .zero).min (ns.getD n .zero).max=true:=by
    unfold aX at jP;rw[aq (by rw[<-cA];exact h1),aq (by rw[<-cA];exact λh=>h.elim h2 h3),aD (by rw[<-cA];exact h4)]at jP;simp only[dE]at jP;exact jP.1.2
   simp[eK]at dZ;have i1:=ih x hx (by omega);rw[hT];unfold fY;rw[aq (by rw[<-cA];exact h1),aq (by rw[<-cA];exact h2),aq (by rw[<-cA];exact h3),aD (by rw[<-cA];exact h4)];refine⟨⟨i1.1,?_,?_⟩,λz h=>i1.2 z h⟩<;>(simp only[cL];omega)
  have h5:bJ ns n=5:=by
   by_cases h5:bJ ns n=5
   ·exact h5
   ·exfalso
    unfold aX at jP;rw[aq (by rw[<-cA];exact h1),aq (by rw[<-cA];exact λh=>h.elim h2 h3),aq (by rw[<-cA];exact h4),aq (by rw[<-cA];exact h5)]at jP;cases jP
  obtain⟨x,hL,hx,hT⟩:=If (ns:=ns) (k:=n) (by rw[h5];rfl) (by rw[h5]at eB;exact eB);have i1:=ih x hx (by omega);rw[hT];unfold fY;rw[aq (by rw[<-cA];exact h1),aq (by rw[<-cA];exact h2),aq (by rw[<-cA];exact h3),aq (by rw[<-cA];exact h4)];refine⟨i1.1,λz h=>?_⟩;rcases h with rfl|h
  ·exact zo1 ns n hn (by rw[<-cA];exact h5)
  ·exact i1.2 z h
end
attribute [local go_sem ↓] wp_at_zero wp_at_succ
theorem jf(W:zi)(b j:Nat)(v:Value):W.grownBy (W.setCell ⟨b,j,zb⟩ v) (zc b):=
 ⟨rfl,rfl,rfl,by simp,λk _ hk=>Below.heap_setCell W _ _ k (λe=>hk (by rw[e]))⟩
theorem zhA(W:zi)(b j:Nat)(v:Value):W.grownBy (W.setCell ⟨b,j,zb⟩ v).drew (zc b):=by
 have h:=jf W b j v;exact⟨h.os,h.tape,h.output,h.size,h.block⟩
def kK(n:Nat)(T:Nat->Nat):Array Value:=((List.range n).map λi=>Value.int .u64 (T i:Int)).toArray
theorem Pj(n:Nat)(T:Nat->Nat){i:Nat}(h:i<n):(kK n T)[i]?=zc (.int .u64 (T i:Int)):=by
 simp[kK,h]
def ax(T:Nat->Nat)(s:Nat):Bool:=(T (s/64)).testBit (s%64)
theorem zsi(x y:Nat)(hx:x<18446744073709551616)(hy:y<18446744073709551616):bits BinOp.or IntKind.u64 (x:Int) (y:Int)=((x ||| y:Nat):Int):=by
 have h1:(BitVec.ofInt 64 (x:Int) ||| BitVec.ofInt 64 (y:Int)).toNat=x ||| y:=by
  rw[BitVec.ofInt_natCast,BitVec.ofInt_natCast,BitVec.toNat_or,BitVec.toNat_ofNat,BitVec.toNat_ofNat,xZ (by omega),xZ (by omega)]
 have h2:x ||| y<18446744073709551616:=Nat.or_lt_two_pow (n:=64) hx hy
 show IntKind.u64.wrap ((BitVec.ofInt 64 (x:Int) ||| BitVec.ofInt 64 (y:Int)).toNat:Int)=_;rw[h1];simp[IntKind.wrap,IntKind.bits,IntKind.signed];omega
theorem Wu(x:Nat):IntKind.u64.wrap (x:Int)=((x%18446744073709551616:Nat):Int):=by
 simp[IntKind.wrap,IntKind.bits,IntKind.signed]
theorem zkE(n:Nat)(T:Nat->Nat)(i x:Nat):(kK n T).setIfInBounds i (.int .u64 (x:Int))=kK n (λj=>if j=i then x else T j):=by
 apply Array.ext'
 unfold kK;simp only[FB];apply List.ext_getElem
 ·simp
 ·intro j h1 h2;simp only[List.getElem_set,List.getElem_map,List.getElem_range]
  by_cases e:i=j
  ·subst e;simp
  ·rw[aq e,aq (λh=>e h.symm)]
def kP(T:Nat->Nat)(p:Nat):Nat->Nat:=λj=>if j=p/64 then T (p/64) ||| 2 ^ (p%64) else T j
theorem IA(T:Nat->Nat)(hT:∀i,T i<18446744073709551616)(p:Nat):∀i,kP T p i<18446744073709551616:=λi=>by
 unfold kP;split
 ·exact Nat.or_lt_two_pow (n:=64) (hT _) (Nat.pow_lt_pow_right (by omega) (by omega))
 ·exact hT i
theorem Il(T:Nat->Nat)(p s:Nat):ax (kP T p) s=(ax T s || decide (s=p)):=by
 unfold ax kP
 by_cases h:s/64=p/64
 ·rw[aD h,Nat.testBit_or,Nat.testBit_two_pow,h]
  congr 1
  by_cases e:s=p
  ·subst e;simp
  ·have:¬p%64=s%64:=by omega
   simp[this,e]
 ·rw[aq h];have:¬s=p:=λe=>h (by rw[e])
  simp[this]
theorem Wj:∀(n x:Nat),x<=n->0<x->∃k t,x=2 ^ k*(2*t+1)
 |0,x,h,h0=>by omega
 |n+1,x,h,h0=>by
  by_cases e:x%2=1
  ·exact⟨0,x/2,by omega⟩
  ·obtain⟨k,t,hk⟩:=Wj n (x/2) (by omega) (by omega);refine⟨k+1,t,?_⟩;rw[Nat.pow_succ,Nat.mul_assoc,Nat.mul_comm 2,<-Nat.mul_assoc,<-hk];omega
structure Low(x k:Nat):Prop where
 bit:x.testBit k=true
 low:∀j,j<k->x.testBit j=false
theorem Mj(k t:Nat):Low (2 ^ k*(2*t+1)) k:=by
 constructor
 ·rw[Nat.testBit_two_pow_mul];simp
 ·intro j hj;rw[Nat.testBit_two_pow_mul];simp;omega
theorem zsV{x k t:Nat}(hx:x=2 ^ k*(2*t+1))(hl:x<2 ^ 64):x &&& (2 ^ 64-x)=2 ^ k:=by
 have hp:0<2 ^ k:=Nat.two_pow_pos k;have h0:0<x:=by rw[hx];exact Nat.mul_pos hp (by omega)
 have e1:2 ^ 64-x=2 ^ 64-((x-1)+1):=by omega
 have e2:x-1=2 ^ k*(2*t)+(2 ^ k-1):=by
  rw[hx,Nat.mul_add,Nat.mul_one];omega
 apply Nat.eq_of_testBit_eq
 intro i;rw[Nat.testBit_and,e1,Nat.testBit_two_pow_sub_succ (by omega),e2,Nat.testBit_two_pow_mul_add _ (by omega),hx,Nat.testBit_two_pow_mul,Nat.testBit_two_pow];have hk:k<64:=by
  rcases gh k 64 with h|h
  ·exact h
  ·have:2 ^ 64<=2 ^ k:=Nat.pow_le_pow_right (by omega) h;have:2 ^ k<=x:=by rw[hx];exact Nat.le_mul_of_pos_right _ (by omega)
   omega
 by_cases h1:i<k
 ·have:¬k<=i:=by omega
  have h2:¬k=i:=by omega
  simp[this,h2]
 ·by_cases h2:i=k
  ·subst h2;simp[hk]
  ·have h3:k<=i:=by omega
   have h4:¬k=i:=by omega
   have h5:¬i-k=0:=by omega
   obtain⟨m,hm⟩:∃m,i-k=m+1:=⟨i-k-1,by omega⟩;have a1:(2*t+1).testBit (m+1)=t.testBit m:=by rw[Nat.testBit_succ];congr 1;omega
   have a2:(2*t).testBit (m+1)=t.testBit m:=by rw[Nat.testBit_succ];congr 1;omega
   rw[aq h1,hm,a1,a2];cases t.testBit m<;>simp[h4]
def Mn:List Nat:=[0,1,56,2,57,49,28,3,61,58,42,50,38,29,17,4,62,47,59,36,45,43,51,22,53,39,33,30,24,18,12,5,63,55,48,27,60,41,37,16,46,35,44,21,52,32,23,11,54,26,40,15,34,20,31,10,25,14,19,9,13,8,7,6]
theorem ztr:∀k,k<64->(2 ^ k*285870213051353865%18446744073709551616)/2 ^ 58<64/\Mn.getD ((2 ^ k*285870213051353865%18446744073709551616)/2 ^ 58) 0=k:=by decide
def fG(w:zi):Prop:=∀i,i<64->w.cell? ⟨0,i,zb⟩=zc (.int .u8 (Mn.getD i 0:Int))
theorem PJ(x y:Nat)(hx:x<18446744073709551616)(hy:y<18446744073709551616):bits BinOp.and IntKind.u64 (x:Int) (y:Int)=((x &&& y:Nat):Int):=by
 have h1:(BitVec.ofInt 64 (x:Int) &&& BitVec.ofInt 64 (y:Int)).toNat=x &&& y:=by
  rw[BitVec.ofInt_natCast,BitVec.ofInt_natCast,BitVec.toNat_and,BitVec.toNat_ofNat,BitVec.toNat_ofNat,xZ (by omega),xZ (by omega)]
 have h2:x &&& y<=x:=Nat.and_le_left;show IntKind.u64.wrap ((BitVec.ofInt 64 (x:Int) &&& BitVec.ofInt 64 (y:Int)).toNat:Int)=_;rw[h1];simp[IntKind.wrap,IntKind.bits,IntKind.signed];omega
theorem ztQ(x k t:Nat)(w:zi)(hx:zh (x=2 ^ k*(2*t+1)))(hl:x<18446744073709551616)(h0:0<x)(hk:k<64)(hB:zh (fG w)):
  zk prog 148 #[.int .u64 x] w λe w'=>e=.returned (ze .i64 k)/\w'=w:=by
 have b0:((x:Int)==0)=false:=by simp;omega
 have hn:IntKind.u64.wrap (-(x:Int))=((18446744073709551616-x:Nat):Int):=by
  simp[IntKind.wrap,IntKind.bits,IntKind.signed];omega
 have ha:bits BinOp.and IntKind.u64 (x:Int) (IntKind.u64.wrap (-(x:Int)))=((2 ^ k:Nat):Int):=by
  rw[hn,PJ _ _ hl (by omega)];have h:=zsV hx.out (show x<2 ^ 64 by omega);rw[show (2:Nat) ^ 64=18446744073709551616 by decide]at h;rw[h]
 obtain⟨hi,ht⟩:=ztr k hk;have hE:IntKind.u64.wrap (bits BinOp.and IntKind.u64 (x:Int) (IntKind.u64.wrap (-(x:Int)))*285870213051353865)/288230376151711744=(((2 ^ k*285870213051353865%18446744073709551616)/2 ^ 58:Nat):Int):=by
  rw[ha,show ((2 ^ k:Nat):Int)*285870213051353865=((2 ^ k*285870213051353865:Nat):Int) by simp,Wu];generalize 2 ^ k*285870213051353865%18446744073709551616=y;omega
 have c0:w.cell? ⟨0,(IntKind.u64.wrap (bits BinOp.and IntKind.u64 (x:Int) (IntKind.u64.wrap (-(x:Int)))*285870213051353865)/288230376151711744).toNat,zb⟩=zc (.int .u8 (k:Int)):=by rw[hE,sx,hB.out _ hi,ht]
 have q0:0<=IntKind.u64.wrap (bits BinOp.and IntKind.u64 (x:Int) (IntKind.u64.wrap (-(x:Int)))*285870213051353865)/288230376151711744:=by rw[hE];omega
 have q1:IntKind.u64.wrap (bits BinOp.and IntKind.u64 (x:Int) (IntKind.u64.wrap (-(x:Int)))*285870213051353865)/288230376151711744<64:=by rw[hE];omega
 clear hn ha ht hx hl h0 hB hi hE
 go_enter func148,ntmps148
 go_wp2;go_ret;exact⟨rfl,rfl⟩
theorem Fj(nw g cap:Nat)(T:Nat->Nat)(p:Nat)(w:zi)(hg:w.heap[g]?=zc (zj (kK nw T) 236 (0,0)))(hp:p<64*nw)(bV:nw<=1000)(hT:zh (∀i,T i<18446744073709551616)):
  zk prog 146 #[zf (zc ⟨g,0,zb⟩) nw cap,ze .i64 p] w λe w'=>e=.returned (.tuple #[])/\w'.heap[g]?=zc (zj (kK nw (kP T p)) 236 (0,0))/\w.grownBy w' (zc g):=by
 have d0:w.cell? ⟨g,p/64,zb⟩=zc (.int .u64 (T (p/64):Int)):=by rw[aO _ _ _ _ _ _ hg,Pj _ _ (by omega)]
 have f0:=cF _ _ (p/64) _ _ hg;have t0:=hT.out (p/64);have e1:(p:Int)/64=((p/64:Nat):Int):=by omega
 have e2:(p:Int)%64=((p%64:Nat):Int):=by omega
 have l1:p/64<nw:=by omega
 have l2:p%64<64:=by omega
 have HN:zh (((w.setCell ⟨g,p/64,zb⟩ (.int .u64 ((T (p/64) ||| 2 ^ (p%64):Nat):Int))).heap[g]?=zc (zj (kK nw (kP T p)) 236 (0,0)))):=by
  have:=dF w g (p/64) _ _ (.int .u64 ((T (p/64) ||| 2 ^ (p%64):Nat):Int)) hg;rw[zkE]at this;exact this
 generalize kP T p=T' at *;generalize T (p/64)=a at *;generalize hq:p/64=q at *;generalize hr:p%64=r at *;have i1:(q:Int)<nw:=by omega
 have i3:(0:Int)<=(q:Int):=by omega
 have hv:bits BinOp.or IntKind.u64 (a:Int) (IntKind.u64.wrap (2 ^ r))=((a ||| 2 ^ r:Nat):Int):=by
  have h2:2 ^ r<18446744073709551616:=Nat.pow_lt_pow_right (a:=2) (n:=64) (by omega) l2;rw[show (2:Int) ^ r=((2 ^ r:Nat):Int) by simp,Wu,xZ h2,zsi _ _ t0 h2]
 rw[<-hv]at HN;clear hv hq hr hg hT t0
 go_enter func146,ntmps146
 go_wp2
 go_region
 all_goals
  go_wp2
  go_end0
  exact⟨rfl,HN.out,zhA _ _ _ _⟩
end Go.Proofs.YtdimhpfiieepiaaGreatDoor
