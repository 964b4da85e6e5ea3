import Derived.Test.YthdljcdbfmhleaaGreatDoorC44
import Derived.BigQuiet
namespace Go.Proofs.YthdljcdbfmhleaaGreatDoor
set_option maxHeartbeats 4000000
set_option maxRecDepth 100000
open Go.RowKit
attribute [local go_sem ↓] Go.wp_at_zero Go.wp_at_succ
structure ExtU(X:World) where
 W:World
 h:Below X.heap.size X W
instance extUNonempty (X:World):Nonempty (ExtU X):=⟨⟨X,Below.refl _ _⟩⟩
theorem zfi{P:Prop}{q:Bool}(h:q=true↔P)(k:¬P):q=false:=by
 cases q
 ·rfl
 ·exact absurd (h.1 rfl) k
theorem zo4(ns:List zak)(n x y:Nat)(hn:n<ns.length)(hk:zap ns n=2)(hT:tOf ns n=.seq (tOf ns x) (tOf ns y))(hL:zbn ns n=x)(hR:zbf ns n=y)(hE:zbO ns x)(hF:zbO ns y)(hX:PlcC ns x)(hY:PlcC ns y):PlcC ns n:=by
 intro w ao c gl cl gr cr t B i j g cap m sp l hbr hown hsm hB hm0 hm1 hij hjt ht hg hpl;rw[hT] at hpl;obtain⟨ao2,cap2,hv,hml,hc⟩:=hbr.nodes;cases hv;obtain⟨b,o,sv,nd,rfl,Hn,hbl,c0,c1,c2,c3,c4,hsv⟩:=hc.elem (Below.refl _ _) hn;have hk1:nd.kind=2:=by rw[<-hk];unfold zap;rw[Hn.out]
 rw[hk1] at c0;obtain⟨sao,scp,rfl,hsm2,hsc⟩:=hsv;have l0:=hbr.left n hn;rw[hL] at l0;have r0:=hbr.right n hn;rw[hR] at r0;have hlt:=hbr.ltl;have hrt:=hbr.ltr;have hi0:(0:Int)<=(n:Int):=by omega
 have hi1:(n:Int)<(ns.length:Int):=by omega
 obtain⟨W0,hW0⟩:∃W0,(w.alloc (.cells #[.slice (some ⟨b,o,none⟩) ns.length c,.slice (some ⟨gl,0,none⟩) ns.length cl,.slice (some ⟨gr,0,none⟩) ns.length cr,.string t] 46)).alloc (.cells #[.int .i64 2,.slice sao nd.set.length scp,.int .i64 nd.min,.int .i64 nd.max,.int .i64 nd.group] 72)=W0:=⟨_,rfl⟩;have hb0:Below w.heap.size w W0:=by rw[<-hW0];exact((Below.refl _ _).alloc (zsa _) _).alloc (by simp) _
 have k1:W0.heap[w.heap.size]?=some (.cells #[.slice (some ⟨b,o,none⟩) ns.length c,.slice (some ⟨gl,0,none⟩) ns.length cl,.slice (some ⟨gr,0,none⟩) ns.length cr,.string t] 46 (0,0)):=by rw[<-hW0];exact zah (zsp _ _)
 have k2:W0.heap[w.heap.size+1]?=some (.cells #[.int .i64 2,.slice sao nd.set.length scp,.int .i64 nd.min,.int .i64 nd.max,.int .i64 nd.group] 72 (0,0)):=by rw[<-hW0];exact zcs _ _ _
 obtain⟨p0,p1,p2,p3⟩:=zaC k1;obtain⟨q0,q1,q2,q3,q4⟩:=zbw k2;have hs0:w.heap.size+1<W0.heap.size:=zbQ k2;obtain⟨cut,l1,l2,hG,hp1,hp2,rfl⟩:=hpl;have hL1x:=fun(kk:Nat) (W:World) (hb:Below w.heap.size w W) (hkk:kk<=t.size)=>zeP ns x hE W (some ⟨b,o,none⟩) c gl cl gr cr t i kk (hbr.below hb) (by omega) hkk ht
 have hR1x:=fun(kk:Nat) (W:World) (hb:Below w.heap.size w W) (hkk:kk<=t.size)=>zeP ns y hF W (some ⟨b,o,none⟩) c gl cl gr cr t kk j (hbr.below hb) hkk hjt ht
 have hX':=fun(W:World) (hb:Below w.heap.size w W)=>hX W (some ⟨b,o,none⟩) c gl cl gr cr t B i cut g cap m sp l1 (hbr.below hb) (zab hown hb) hsm (zsb hB hb.size) hm0 hm1 hG.1 (zsb hG.2.1 hjt) ht (fun z hz=>hg z (zrR.2 (.inl hz))) hp1
 have hY':=fun(W:World) (hb:Below w.heap.size w W) (g' cap':Nat) (h1:W.ownsRow B 50 2 (.slice (some ⟨g',0,none⟩) m cap') m (pv (upG sp l1)))=>hY W (some ⟨b,o,none⟩) c gl cl gr cr t B cut j g' cap' m (upG sp l1) l2 (hbr.below hb) h1 (by rw[zcy];exact hsm) (zsb hB hb.size) hm0 hm1 hG.2.1 hjt ht (fun z hz=>hg z (zrR.2 (.inr hz))) hp2
 have hc1:=hG.1;have hc2:=hG.2.1;have Hc3:Hid (Lg t.data.toList (tOf ns x) i cut/\Lg t.data.toList (tOf ns y) cut j):=hG.2.2.1;have Hc4:Hid (∀k,cut<k->k<=j->¬(Lg t.data.toList (tOf ns x) i k/\Lg t.data.toList (tOf ns y) k j)):=hG.2.2.2;have Hu:Hid (upG sp (l1++l2)=upG (upG sp l1) l2):=zeG sp l1 l2;have H0:EndH w (.slice (some ⟨b,o,none⟩) ns.length c) (.slice (some ⟨gl,0,none⟩) ns.length cl) (.slice (some ⟨gr,0,none⟩) ns.length cr) (.string t) (.int .i64 2) (.slice sao nd.set.length scp) (.int .i64 nd.min) (.int .i64 nd.max) (.int .i64 nd.group) gl gr n (.int .i64 x) (.int .i64 y) W0:=⟨hb0,hs0,p0,p1,p2,p3,q0,q1,q2,q3,q4,(hb0.cell (p:=⟨gl,n,none⟩) hlt).trans l0,(hb0.cell (p:=⟨gr,n,none⟩) hrt).trans r0,hlt,hrt⟩;clear hT hk hk1 hc hsc hbr hX hY hE hF hG hp1 hp2 hg k1 k2 p0 p1 p2 p3 q1 q2 q3 q4 l0 r0;obtain⟨-,-,a0,a1,a2,a3,d0,d1,d2,d3,d4,lA,rA,-,-⟩:=id H0
 go_enter Tryz.func16,Tryz.ntmps16
 go_wp2;clear a0 a1 a2 a3 d0 d1 d2 d3 d4 lA rA hW0 c0 c1 c2 c3 c4 q0
 go_loopw [13] (fun k wr=>∃kk:Nat,cut<=kk/\kk<=j/\k=.int .i64 kk/\EndH w (.slice (some ⟨b,o,none⟩) ns.length c) (.slice (some ⟨gl,0,none⟩) ns.length cl) (.slice (some ⟨gr,0,none⟩) ns.length cr) (.string t) (.int .i64 2) (.slice sao nd.set.length scp) (.int .i64 nd.min) (.int .i64 nd.max) (.int .i64 nd.group) gl gr n (.int .i64 x) (.int .i64 y) wr)
  (fun k _=>(intOf k).toNat)
 case atStart=>exact⟨j,hc2,zsa _,rfl,H0⟩
 case round=>
  clear H0;obtain⟨kk,hk1,hk2,rfl,Hr⟩:=hrel;obtain⟨hbA,hsA,a0A,a1A,a2A,a3A,d0A,d1A,d2A,d3A,d4A,lA,rA,-,-⟩:=Hr;have x0:∀s:ExtU wr,s.W.cell? ⟨w.heap.size,0,none⟩=some (.slice (some ⟨b,o,none⟩) ns.length c):=fun s=>(s.h.cell (p:=⟨w.heap.size,0,none⟩) (by show w.heap.size<_;omega)).trans a0A
  have x1:∀s:ExtU wr,s.W.cell? ⟨w.heap.size,1,none⟩=some (.slice (some ⟨gl,0,none⟩) ns.length cl):=fun s=>(s.h.cell (p:=⟨w.heap.size,1,none⟩) (by show w.heap.size<_;omega)).trans a1A
  have x2:∀s:ExtU wr,s.W.cell? ⟨w.heap.size,2,none⟩=some (.slice (some ⟨gr,0,none⟩) ns.length cr):=fun s=>(s.h.cell (p:=⟨w.heap.size,2,none⟩) (by show w.heap.size<_;omega)).trans a2A
  have x3:∀s:ExtU wr,s.W.cell? ⟨w.heap.size,3,none⟩=some (.string t):=fun s=>(s.h.cell (p:=⟨w.heap.size,3,none⟩) (by show w.heap.size<_;omega)).trans a3A
  have x4:∀s:ExtU wr,s.W.cell? ⟨gl,n,none⟩=some (.int .i64 x):=fun s=>(s.h.cell (p:=⟨gl,n,none⟩) (by have:=hbA.size;show gl<_;omega)).trans lA
  have x5:∀s:ExtU wr,s.W.cell? ⟨gr,n,none⟩=some (.int .i64 y):=fun s=>(s.h.cell (p:=⟨gr,n,none⟩) (by have:=hbA.size;show gr<_;omega)).trans rA
  have hkt:kk<=t.size:=by omega
  go_wp2
  by_cases hkc:kk=cut
  ·subst hkc;have HA:Hid (Lg t.data.toList (tOf ns x) i kk):=Hc3.out.1;have HB2:Hid (Lg t.data.toList (tOf ns y) kk j):=Hc3.out.2;have hLs:∀s:ExtU wr,Calls Tryz.prog 32 #[.agg #[.slice (some ⟨b,o,none⟩) ns.length c,.slice (some ⟨gl,0,none⟩) ns.length cl,.slice (some ⟨gr,0,none⟩) ns.length cr,.string t],.int .i64 x,.int .i64 i,.int .i64 kk] s.W fun e w'=>e=.returned (.bool true)/\∃s':ExtU wr,w'=s'.W:=fun s=>(hL1x kk s.W (zaa hbA hbA.size s.h) hkt).mono fun e w' ⟨q,he,hq,hb⟩=>⟨by rw[he,show q=true from(by first|exact hq.2 HA.out|exact zfi hq HA.out)],⟨⟨w',zaa s.h s.h.size hb⟩,rfl⟩⟩
   have hRs:∀s:ExtU wr,Calls Tryz.prog 32 #[.agg #[.slice (some ⟨b,o,none⟩) ns.length c,.slice (some ⟨gl,0,none⟩) ns.length cl,.slice (some ⟨gr,0,none⟩) ns.length cr,.string t],.int .i64 y,.int .i64 kk,.int .i64 j] s.W fun e w'=>e=.returned (.bool true)/\∃s':ExtU wr,w'=s'.W:=fun s=>(hR1x kk s.W (zaa hbA hbA.size s.h) hkt).mono fun e w' ⟨q,he,hq,hb⟩=>⟨by rw[he,show q=true from(by first|exact hq.2 HB2.out|exact zfi hq HB2.out)],⟨⟨w',zaa s.h s.h.size hb⟩,rfl⟩⟩
   refine zbt 21 (fun w'=>∃s:ExtU wr,w'=s.W) (by kernel_rfl) ⟨⟨wr.drew,⟨rfl,rfl,rfl,zsa _,fun _ _=>rfl⟩⟩,rfl⟩ (by decide) (by kernel_rfl) ?_;intro os hos;simp only[zr6,zr8] at hos;subst hos
   repeat (go_big_quiet_step (first|(go_at_call_of 32 (Value.int IntKind.i64 (x:Int));exact hLs _)|(go_at_call_of 32 (Value.int IntKind.i64 (y:Int));exact hRs _)))
   refine wpQuiet_nil ?_;rintro w6 ⟨⟨Wb,hb6⟩,rfl⟩ r hr;simp only[zrr,List.drop_zero] at hr;subst hr;have H6:EndH w (.slice (some ⟨b,o,none⟩) ns.length c) (.slice (some ⟨gl,0,none⟩) ns.length cl) (.slice (some ⟨gr,0,none⟩) ns.length cr) (.string t) (.int .i64 2) (.slice sao nd.set.length scp) (.int .i64 nd.min) (.int .i64 nd.max) (.int .i64 nd.group) gl gr n (.int .i64 x) (.int .i64 y) w6:=EndH.call ⟨hbA,hsA,a0A,a1A,a2A,a3A,d0A,d1A,d2A,d3A,d4A,lA,rA,hlt,hrt⟩ hb6;have H7:=H6.call ((Below.refl w6.heap.size w6).drew);clear hLs hRs hL1x hR1x HA HB2 x0 x1 x2 x3 x4 x5 hbA hsA a0A a1A a2A a3A d0A d1A d2A d3A d4A lA rA;obtain⟨-,-,e0,e1,e2,e3,-,-,-,-,-,eL,eR,-,-⟩:=H6;have hfd:Below w.heap.size w w6.drew/\w.heap.size+1<w6.drew.heap.size/\w6.drew.cell? ⟨w.heap.size,0,none⟩=some (.slice (some ⟨b,o,none⟩) ns.length c)/\w6.drew.cell? ⟨w.heap.size,1,none⟩=some (.slice (some ⟨gl,0,none⟩) ns.length cl)/\w6.drew.cell? ⟨w.heap.size,2,none⟩=some (.slice (some ⟨gr,0,none⟩) ns.length cr)/\w6.drew.cell? ⟨w.heap.size,3,none⟩=some (.string t)/\w6.drew.cell? ⟨gl,n,none⟩=some (.int .i64 x)/\w6.drew.cell? ⟨gr,n,none⟩=some (.int .i64 y):=⟨H7.1,H7.2.1,e0,e1,e2,e3,eL,eR⟩;have HB0:=hfd.1;clear H7;go_wp2;clear e0 e1 e2 e3 eL eR
   go_region_held3 (fun w'=>Below w.heap.size w w'/\w.heap.size+1<w'.heap.size/\w'.cell? ⟨w.heap.size,0,none⟩=some (.slice (some ⟨b,o,none⟩) ns.length c)/\w'.cell? ⟨w.heap.size,1,none⟩=some (.slice (some ⟨gl,0,none⟩) ns.length cl)/\w'.cell? ⟨w.heap.size,2,none⟩=some (.slice (some ⟨gr,0,none⟩) ns.length cr)/\w'.cell? ⟨w.heap.size,3,none⟩=some (.string t)/\w'.cell? ⟨gl,n,none⟩=some (.int .i64 x)/\w'.cell? ⟨gr,n,none⟩=some (.int .i64 y)) ((first|exact hfd|exact zch hlt hrt (by assumption) hb8|exact zch hlt hrt (by assumption) hb9|go_keep)) ((first|(have hgo:=own8;go_at_call 16;refine(hY' _ (by first|exact HB0|exact(‹Below w.heap.size w _/\_›).1) g8 cap8 hgo).mono ?_;rintro e w9 ⟨g9,cap9,rfl,own9,hb9⟩)|(go_at_call 16;refine(hX' _ (by first|exact HB0|exact(‹Below w.heap.size w _/\_›).1)).mono ?_;rintro e w8 ⟨g8,cap8,rfl,own8,hb8⟩)))
   all_goals
    have bel:=zaa (zaa HB0 HB0.size hb8) (zaa HB0 HB0.size hb8).size hb9;rw[<-Hu.out] at own9;go_wp2;exact zsl (v:=.slice (some ⟨g9,0,none⟩) m cap9) (by simp[results,Tryz.results16,go_sem]) rfl ⟨g9,cap9,rfl,own9,bel⟩
  ·have hlt2:cut<kk:=by omega
   by_cases hA:Lg t.data.toList (tOf ns x) i kk
   ·have HA:Hid (Lg t.data.toList (tOf ns x) i kk):=hA;have HB2:Hid (¬Lg t.data.toList (tOf ns y) kk j):=fun h=>Hc4.out kk hlt2 hk2 ⟨hA,h⟩
    clear hA;have hLs:∀s:ExtU wr,Calls Tryz.prog 32 #[.agg #[.slice (some ⟨b,o,none⟩) ns.length c,.slice (some ⟨gl,0,none⟩) ns.length cl,.slice (some ⟨gr,0,none⟩) ns.length cr,.string t],.int .i64 x,.int .i64 i,.int .i64 kk] s.W fun e w'=>e=.returned (.bool true)/\∃s':ExtU wr,w'=s'.W:=fun s=>(hL1x kk s.W (zaa hbA hbA.size s.h) hkt).mono fun e w' ⟨q,he,hq,hb⟩=>⟨by rw[he,show q=true from(by first|exact hq.2 HA.out|exact zfi hq HA.out)],⟨⟨w',zaa s.h s.h.size hb⟩,rfl⟩⟩
    have hRs:∀s:ExtU wr,Calls Tryz.prog 32 #[.agg #[.slice (some ⟨b,o,none⟩) ns.length c,.slice (some ⟨gl,0,none⟩) ns.length cl,.slice (some ⟨gr,0,none⟩) ns.length cr,.string t],.int .i64 y,.int .i64 kk,.int .i64 j] s.W fun e w'=>e=.returned (.bool false)/\∃s':ExtU wr,w'=s'.W:=fun s=>(hR1x kk s.W (zaa hbA hbA.size s.h) hkt).mono fun e w' ⟨q,he,hq,hb⟩=>⟨by rw[he,show q=false from(by first|exact hq.2 HB2.out|exact zfi hq HB2.out)],⟨⟨w',zaa s.h s.h.size hb⟩,rfl⟩⟩
    refine zbt 21 (fun w'=>∃s:ExtU wr,w'=s.W) (by kernel_rfl) ⟨⟨wr.drew,⟨rfl,rfl,rfl,zsa _,fun _ _=>rfl⟩⟩,rfl⟩ (by decide) (by kernel_rfl) ?_;intro os hos;simp only[zr6,zr8] at hos;subst hos
    repeat (go_big_quiet_step (first|(go_at_call_of 32 (Value.int IntKind.i64 (x:Int));exact hLs _)|(go_at_call_of 32 (Value.int IntKind.i64 (y:Int));exact hRs _)))
    refine wpQuiet_nil ?_;rintro w6 ⟨⟨Wb,hb6⟩,rfl⟩ r hr;simp only[zrr,List.drop_zero] at hr;subst hr;have H6:EndH w (.slice (some ⟨b,o,none⟩) ns.length c) (.slice (some ⟨gl,0,none⟩) ns.length cl) (.slice (some ⟨gr,0,none⟩) ns.length cr) (.string t) (.int .i64 2) (.slice sao nd.set.length scp) (.int .i64 nd.min) (.int .i64 nd.max) (.int .i64 nd.group) gl gr n (.int .i64 x) (.int .i64 y) w6:=EndH.call ⟨hbA,hsA,a0A,a1A,a2A,a3A,d0A,d1A,d2A,d3A,d4A,lA,rA,hlt,hrt⟩ hb6;have H6':Hid _:=H6;clear H6 hLs hRs hL1x hR1x hX' hY' x0 x1 x2 x3 x4 x5 hbA hsA a0A a1A a2A a3A d0A d1A d2A d3A d4A lA rA;go_wp2
    go_roundw
    case rel=>exact⟨kk-1,by omega,by omega,by go_num,H6'.out⟩
    case measure=>simp[intOf];omega
   ·have HA:Hid (¬Lg t.data.toList (tOf ns x) i kk):=hA;clear hA;have hLs:∀s:ExtU wr,Calls Tryz.prog 32 #[.agg #[.slice (some ⟨b,o,none⟩) ns.length c,.slice (some ⟨gl,0,none⟩) ns.length cl,.slice (some ⟨gr,0,none⟩) ns.length cr,.string t],.int .i64 x,.int .i64 i,.int .i64 kk] s.W fun e w'=>e=.returned (.bool false)/\∃s':ExtU wr,w'=s'.W:=fun s=>(hL1x kk s.W (zaa hbA hbA.size s.h) hkt).mono fun e w' ⟨q,he,hq,hb⟩=>⟨by rw[he,show q=false from(by first|exact hq.2 HA.out|exact zfi hq HA.out)],⟨⟨w',zaa s.h s.h.size hb⟩,rfl⟩⟩
    refine zbt 21 (fun w'=>∃s:ExtU wr,w'=s.W) (by kernel_rfl) ⟨⟨wr.drew,⟨rfl,rfl,rfl,zsa _,fun _ _=>rfl⟩⟩,rfl⟩ (by decide) (by kernel_rfl) ?_;intro os hos;simp only[zr6,zr8] at hos;subst hos
    repeat (go_big_quiet_step (first|(go_at_call_of 32 (Value.int IntKind.i64 (x:Int));exact hLs _)))
    refine wpQuiet_nil ?_;rintro w6 ⟨⟨Wb,hb6⟩,rfl⟩ r hr;simp only[zrr,List.drop_zero] at hr;subst hr;have H6:EndH w (.slice (some ⟨b,o,none⟩) ns.length c) (.slice (some ⟨gl,0,none⟩) ns.length cl) (.slice (some ⟨gr,0,none⟩) ns.length cr) (.string t) (.int .i64 2) (.slice sao nd.set.length scp) (.int .i64 nd.min) (.int .i64 nd.max) (.int .i64 nd.group) gl gr n (.int .i64 x) (.int .i64 y) w6:=EndH.call ⟨hbA,hsA,a0A,a1A,a2A,a3A,d0A,d1A,d2A,d3A,d4A,lA,rA,hlt,hrt⟩ hb6;have H6':Hid _:=H6;clear H6 hLs hL1x hR1x hX' hY' x0 x1 x2 x3 x4 x5 hbA hsA a0A a1A a2A a3A d0A d1A d2A d3A d4A lA rA;go_wp2
    go_roundw
    case rel=>exact⟨kk-1,by omega,by omega,by go_num,H6'.out⟩
    case measure=>simp[intOf];omega
theorem zpZ(ns:List zak)(x:Nat)(hE:zbO ns x)(t:ByteArray)(mx:Int)(hp:0<mx)(i j:Nat)(hn:∀k,i<=k->k<=j->¬(Lg t.data.toList (tOf ns x) i k/\Lg t.data.toList (.rep (tOf ns x) ((0:Nat):Int) (mx-1)) k j)):CpC ns x t 0 mx i j []:=by
 intro w ao c gl cl gr cr B g cap m sp hbr hown hsm hB hm0 hm1 hij hjt ht hg hmn hmx;obtain⟨W0,hW0⟩:∃W0,w.alloc (.cells #[.slice ao ns.length c,.slice (some ⟨gl,0,none⟩) ns.length cl,.slice (some ⟨gr,0,none⟩) ns.length cr,.string t] 46)=W0:=⟨_,rfl⟩;have hb0:Below w.heap.size w W0:=by rw[<-hW0];exact(Below.refl _ _).alloc (zsa _) _
 have k0:W0.heap[w.heap.size]?=some (BoxB ao ns c gl cl gr cr t):=by rw[<-hW0];exact zsp _ _
 have hd2:decide (0<mx)=true:=by simp[hp]
 have hd3:(mx==0)=false:=by simp;omega
 have hd4:(mx == -1)=false:=by simp;omega
 have hIn:=fun(kk:Nat) (W:World) (hb:Below w.heap.size w W) (hkk:kk<=t.size)=>zeP ns x hE W ao c gl cl gr cr t i kk (hbr.below hb) (by omega) hkk ht
 have hCo:=fun(kk:Nat) (W:World) (hb:Below w.heap.size w W) (hkk:kk<=t.size)=>zh5 ns x hE W ao c gl cl gr cr t 0 (mx-1) kk j (by omega) (by omega) (hbr.below hb) hkk hjt ht
 have Hn:Hid (∀k,i<=k->k<=j->¬(Lg t.data.toList (tOf ns x) i k/\Lg t.data.toList (.rep (tOf ns x) ((0:Nat):Int) (mx-1)) k j)):=hn;clear hn hE hbr hg;simp only[show ((0:Nat):Int)=0 from rfl] at hCo ⊢
 go_enter Tryz.func33,Tryz.ntmps33
 go_wp2;clear hW0
 go_loopw [18] (fun k wr=>((∃kk:Nat,i<=kk/\kk<=j/\k=.int .i64 kk)\/k=.int .i64 ((i:Int)-1))/\Below w.heap.size w wr/\wr.heap[w.heap.size]?=some (BoxB ao ns c gl cl gr cr t))
  (fun k _=>(intOf k+1).toNat)
 case atStart=>exact⟨.inl ⟨j,hij,zsa _,rfl⟩,hb0,k0⟩
 case round=>
  clear k0;obtain⟨⟨kk,hk1,hk2,rfl⟩|rfl,hbr,kr⟩:=hrel
  ·obtain⟨a0,a1,a2,a3⟩:=zaC kr;have hkt:kk<=t.size:=by omega
   have hge2:(i:Int)<=(kk:Int):=by omega
   go_wp2_with fail
   refine(hIn kk _ hbr hkt).mono ?_;rintro e w4 ⟨q,rfl,hq,hb4⟩;have Hb1:Hid (q=true↔Lg t.data.toList (tOf ns x) i kk):=hq;clear hq;have kr4:=zat kr hb4;have hbr4:=zaa hbr hbr.size hb4;obtain⟨c0,c1,c2,c3⟩:=zaC kr4;have Hnx:Hid ((∃k2:Nat,i<=k2/\k2<=j/\Value.int .i64 ((kk:Int)-1)=Value.int .i64 (k2:Int))\/Value.int .i64 ((kk:Int)-1)=Value.int .i64 ((i:Int)-1)):=by
    rcases zsd i kk with h|h
    ·exact .inl ⟨kk-1,by omega,by omega,by congr 1;omega⟩
    ·exact .inr (by congr 1;omega)
   clear a0 a1 a2 a3 kr hbr hb4;cases q
   ·go_wp2
    go_roundw
    case rel=>exact⟨Hnx.out,hbr4,kr4⟩
    case measure=>first|(simp[intOf];done)|(simp[intOf];omega)
   ·go_wp2_with fail
    refine(hCo kk _ hbr4 hkt).mono ?_;rintro e w5 ⟨q,rfl,hq,hb5⟩;have kr5:=zat kr4 hb5;have hbr5:=zaa hbr4 hbr4.size hb5;obtain rfl:q=false:=zog hq fun h=>Hn.out kk hk1 hk2 ⟨Hb1.out.1 (by first|trivial|rfl),h⟩
    clear c0 c1 c2 c3 kr4 hbr4 hb5 hq;go_wp2
    go_roundw
    case rel=>exact⟨Hnx.out,hbr5,kr5⟩
    case measure=>first|(simp[intOf];done)|(simp[intOf];omega)
  ·have hge3:¬(i:Int)<=(i:Int)-1:=by omega
   have hge4:decide ((i:Int)<=(i:Int)-1)=false:=by simp;omega
   go_wp2;exact zsl (v:=.slice (some ⟨g,0,none⟩) m cap) (by simp[results,Tryz.results33,go_sem]) rfl ⟨g,cap,rfl,zab hown hbr,hbr⟩
theorem zlf(ns:List zak)(x:Nat)(hE:zbO ns x)(hX:PlcC ns x)(t:ByteArray)(mn:Nat)(mx:Int)(i j:Nat)(l:List Up)(h:CpR (Lg t.data.toList (tOf ns x)) (Pl t.data.toList (tOf ns x)) (fun mn mx i j=>Lg t.data.toList (.rep (tOf ns x) mn mx) i j) mn mx i j l)(hb:mx=-1\/(mn:Int)<=mx):CpC ns x t mn mx i j l:=by
 induction h with
 |done i j=>exact zok ns x t 0 0 i j ⟨rfl,rfl⟩
 |void i=>exact zom ns x t 0 (-1) i i ⟨rfl,rfl,rfl⟩
 |out mx i j hm hn=>exact zpZ ns x hE t mx hm i j hn
 |must mn mx i j k l1 l2 g h1 h2 ih=>
  by_cases hp:0<mx
  ·simp only[zst hp] at g h2 ih;exact zmp ns x hE hX t (mn+1) mn mx rfl hp i j k l1 l2 g h1 (ih (by omega))
  ·obtain rfl:mx=-1:=by omega
   simp only[zss hp] at g h2 ih;exact zmo ns x hE hX t (mn+1) mn rfl i j k l1 l2 g h1 (ih (by simp))
 |may mx i j k l1 l2 hm g h1 h2 ih=>exact zpY ns x hE hX t mx hm i j k l1 l2 g h1 (ih (by omega))
 |more i j k l1 l2 hi g h1 h2 ih=>exact zol ns x hE hX t i j k l1 l2 g h1 (ih (by simp))
theorem zo3(ns:List zak)(n x mn:Nat)(hn:n<ns.length)(hk:zap ns n=4)(hT:tOf ns n=.rep (tOf ns x) mn (ns.getD n .zero).max)(hL:zbn ns n=x)(hE:zbO ns x)(hX:PlcC ns x)(hm1:(ns.getD n .zero).min=mn)(hm2:mn<=255)(hm3:(ns.getD n .zero).max=-1\/((mn:Int)<=(ns.getD n .zero).max/\(ns.getD n .zero).max<=255)):PlcC ns n:=by
 intro w ao c gl cl gr cr t B i j g cap m sp l hbr hown hsm hB hm0 hm5 hij hjt ht hg hpl;rw[hT] at hpl;obtain⟨ao2,cap2,hv,hml,hc⟩:=hbr.nodes;cases hv;obtain⟨b,o,sv,nd,rfl,Hn,hbl,c0,c1,c2,c3,c4,hsv⟩:=hc.elem (Below.refl _ _) hn;have hk1:nd.kind=4:=by rw[<-hk];unfold zap;rw[Hn.out]
 rw[hk1] at c0;obtain⟨sao,scp,rfl,hsm2,hsc⟩:=hsv;have l0:=hbr.left n hn;rw[hL] at l0;have r0:=hbr.right n hn;obtain⟨ri,hri⟩:∃ri,zbf ns n=ri:=⟨_,rfl⟩;rw[hri] at r0;have hlt:=hbr.ltl;have hrt:=hbr.ltr;have hi0:(0:Int)<=(n:Int):=by omega
 have hi1:(n:Int)<(ns.length:Int):=by omega
 obtain⟨W0,hW0⟩:∃W0,(w.alloc (.cells #[.slice (some ⟨b,o,none⟩) ns.length c,.slice (some ⟨gl,0,none⟩) ns.length cl,.slice (some ⟨gr,0,none⟩) ns.length cr,.string t] 46)).alloc (.cells #[.int .i64 4,.slice sao nd.set.length scp,.int .i64 nd.min,.int .i64 nd.max,.int .i64 nd.group] 72)=W0:=⟨_,rfl⟩;have hb0:Below w.heap.size w W0:=by rw[<-hW0];exact((Below.refl _ _).alloc (zsa _) _).alloc (by simp) _
 have k1:W0.heap[w.heap.size]?=some (.cells #[.slice (some ⟨b,o,none⟩) ns.length c,.slice (some ⟨gl,0,none⟩) ns.length cl,.slice (some ⟨gr,0,none⟩) ns.length cr,.string t] 46 (0,0)):=by rw[<-hW0];exact zah (zsp _ _)
 have k2:W0.heap[w.heap.size+1]?=some (.cells #[.int .i64 4,.slice sao nd.set.length scp,.int .i64 nd.min,.int .i64 nd.max,.int .i64 nd.group] 72 (0,0)):=by rw[<-hW0];exact zcs _ _ _
 obtain⟨p0,p1,p2,p3⟩:=zaC k1;obtain⟨q0,q1,q2,q3,q4⟩:=zbw k2;have hs0:w.heap.size+1<W0.heap.size:=zbQ k2;rw[Hn.out] at hpl hm1 hm3;have hpl:CpR (Lg t.data.toList (tOf ns x)) (Pl t.data.toList (tOf ns x)) (fun mn mx i j=>Lg t.data.toList (.rep (tOf ns x) mn mx) i j) mn nd.max i j l:=by
  have h:=hpl;simp only[Pl,zri] at h;exact h
 have hC:=zlf ns x hE hX t mn nd.max i j l hpl (by omega);have hX':=fun(W:World) (hb:Below w.heap.size w W)=>hC W (some ⟨b,o,none⟩) c gl cl gr cr B g cap m sp (hbr.below hb) (zab hown hb) hsm (zsb hB hb.size) hm0 hm5 hij hjt ht hg hm2 hm3
 have H0:EndH w (.slice (some ⟨b,o,none⟩) ns.length c) (.slice (some ⟨gl,0,none⟩) ns.length cl) (.slice (some ⟨gr,0,none⟩) ns.length cr) (.string t) (.int .i64 4) (.slice sao nd.set.length scp) (.int .i64 nd.min) (.int .i64 nd.max) (.int .i64 nd.group) gl gr n (.int .i64 x) (.int .i64 ri) W0:=⟨hb0,hs0,p0,p1,p2,p3,q0,q1,q2,q3,q4,(hb0.cell (p:=⟨gl,n,none⟩) hlt).trans l0,(hb0.cell (p:=⟨gr,n,none⟩) hrt).trans r0,hlt,hrt⟩;rw[hm1] at H0 c2 hW0;have H1:=H0.call ((Below.refl W0.heap.size W0).drew);clear hT hk hk1 hc hsc hbr hX hE hC hpl hg hri hm3 k1 k2 p0 p1 p2 p3 q0 q1 q2 q3 q4 l0 r0 hm1;obtain⟨-,-,a0,a1,a2,a3,d0,d1,d2,d3,d4,lA,rA,-,-⟩:=H0
 go_enter Tryz.func16,Tryz.ntmps16
 go_wp2;clear a0 a1 a2 a3 d0 d1 d2 d3 d4 lA rA hW0 c0 c1 c2 c3 c4;have HB0:=H1.1;obtain⟨-,hsC,a0C,a1C,a2C,a3C,d0C,d1C,d2C,d3C,d4C,lC,rC,-,-⟩:=H1
 go_region_held3 (fun w'=>Below w.heap.size w w'/\w'.cell? ⟨w.heap.size,0,none⟩=some (.slice (some ⟨b,o,none⟩) ns.length c)/\w'.cell? ⟨w.heap.size,1,none⟩=some (.slice (some ⟨gl,0,none⟩) ns.length cl)/\w'.cell? ⟨w.heap.size,2,none⟩=some (.slice (some ⟨gr,0,none⟩) ns.length cr)/\w'.cell? ⟨w.heap.size,3,none⟩=some (.string t)/\w'.cell? ⟨gl,n,none⟩=some (.int .i64 x)/\w'.cell? ⟨w.heap.size+1,2,none⟩=some (.int .i64 mn)/\w'.cell? ⟨w.heap.size+1,3,none⟩=some (.int .i64 nd.max)) ((first|exact⟨HB0,a0C,a1C,a2C,a3C,lC,d2C,d3C⟩|(exact⟨zaa HB0 HB0.size hb8,(hb8.cell (p:=⟨w.heap.size,0,none⟩) (by show w.heap.size<_;omega)).trans a0C,(hb8.cell (p:=⟨w.heap.size,1,none⟩) (by show w.heap.size<_;omega)).trans a1C,(hb8.cell (p:=⟨w.heap.size,2,none⟩) (by show w.heap.size<_;omega)).trans a2C,(hb8.cell (p:=⟨w.heap.size,3,none⟩) (by show w.heap.size<_;omega)).trans a3C,(hb8.cell (p:=⟨gl,n,none⟩) (by have:=HB0.size;show gl<_;omega)).trans lC,(hb8.cell (p:=⟨w.heap.size+1,2,none⟩) (by show w.heap.size+1<_;omega)).trans d2C,(hb8.cell (p:=⟨w.heap.size+1,3,none⟩) (by show w.heap.size+1<_;omega)).trans d3C⟩)|go_keep)) ((go_at_call 33;refine(hX' _ (by first|exact HB0|exact(‹Below w.heap.size w _/\_›).1)).mono ?_;rintro e w8 ⟨g8,cap8,rfl,own8,hb8⟩))
 all_goals
  have bel:=zaa HB0 HB0.size hb8;go_wp2;exact zsl (v:=.slice (some ⟨g8,0,none⟩) m cap8) (by simp[results,Tryz.results16,go_sem]) rfl ⟨g8,cap8,rfl,own8,bel⟩
end Go.Proofs.YthdljcdbfmhleaaGreatDoor
