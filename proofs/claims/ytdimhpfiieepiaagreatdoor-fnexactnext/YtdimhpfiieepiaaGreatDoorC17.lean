import Derived.Test.YtdimhpfiieepiaaGreatDoorC16
import Derived.BigQuiet
import Derived.Deep.QuietTactic
import Derived.Deep.RegionHeld3
import Derived.Deep.DrawnRows
namespace Go.Proofs.YtdimhpfiieepiaaGreatDoor
set_option maxHeartbeats 4000000
set_option maxRecDepth 100000
open Go.RowKit
section
attribute [local go_sem ↓] Go.wp_at_zero Go.wp_at_succ
structure ExtU(X:World) where
 W:World
 h:Below X.heap.size X W
instance extUNonempty (X:World):Nonempty (ExtU X):=⟨⟨X,Below.refl _ _⟩⟩
theorem zgB{P:Prop}{q:Bool}(h:q=true↔P)(k:¬P):q=false:=by
 cases q
 ·rfl
 ·exact absurd (h.1 rfl) k
theorem zr9(ns:List zaq)(n x y:Nat)(hn:n<ns.length)(hk:zat ns n=2)(hT:tOf ns n=.seq (tOf ns x) (tOf ns y))(hL:zbL ns n=x)(hR:zbD ns n=y)(hE:zcl ns x)(hF:zcl ns y)(hX:PlcC ns x)(hY:PlcC ns y):PlcC ns n:=by
 intro w ao c gl cl gr cr t B i j g cap m sp l hbr hown hsm hB hm0 hm1 hij hjt ht hg hpl;rw[hT] at hpl;obtain⟨ao2,cap2,hv,hml,hc⟩:=hbr.nodes;cases hv;obtain⟨b,o,sv,nd,rfl,Hn,hbl,c0,c1,c2,c3,c4,hsv⟩:=hc.elem (Below.refl _ _) hn;have hk1:nd.kind=2:=by rw[<-hk];unfold zat;rw[Hn.out]
 rw[hk1] at c0;obtain⟨sao,scp,rfl,hsm2,hsc⟩:=hsv;have l0:=hbr.left n hn;rw[hL] at l0;have r0:=hbr.right n hn;rw[hR] at r0;have hlt:=hbr.ltl;have hrt:=hbr.ltr;have hi0:(0:Int)<=(n:Int):=by omega
 have hi1:(n:Int)<(ns.length:Int):=by omega
 obtain⟨W0,hW0⟩:∃W0,(w.alloc (.cells #[.slice (some ⟨b,o,none⟩) ns.length c,.slice (some ⟨gl,0,none⟩) ns.length cl,.slice (some ⟨gr,0,none⟩) ns.length cr,.string t] 119)).alloc (.cells #[.int .i64 2,.slice sao nd.set.length scp,.int .i64 nd.min,.int .i64 nd.max,.int .i64 nd.group] 149)=W0:=⟨_,rfl⟩;have hb0:Below w.heap.size w W0:=by rw[<-hW0];exact((Below.refl _ _).alloc (zvJ _) _).alloc (by simp) _
 have k1:W0.heap[w.heap.size]?=some (.cells #[.slice (some ⟨b,o,none⟩) ns.length c,.slice (some ⟨gl,0,none⟩) ns.length cl,.slice (some ⟨gr,0,none⟩) ns.length cr,.string t] 119 (0,0)):=by rw[<-hW0];exact zak (zvZ _ _)
 have k2:W0.heap[w.heap.size+1]?=some (.cells #[.int .i64 2,.slice sao nd.set.length scp,.int .i64 nd.min,.int .i64 nd.max,.int .i64 nd.group] 149 (0,0)):=by rw[<-hW0];exact zdj _ _ _
 obtain⟨p0,p1,p2,p3⟩:=zaH k1;obtain⟨q0,q1,q2,q3,q4⟩:=zbV k2;have hs0:w.heap.size+1<W0.heap.size:=zcp k2;obtain⟨cut,l1,l2,hG,hp1,hp2,rfl⟩:=hpl;have hL1x:=fun(kk:Nat) (W:World) (hb:Below w.heap.size w W) (hkk:kk<=t.size)=>zf4 ns x hE W (some ⟨b,o,none⟩) c gl cl gr cr t i kk (hbr.below hb) (by omega) hkk ht
 have hR1x:=fun(kk:Nat) (W:World) (hb:Below w.heap.size w W) (hkk:kk<=t.size)=>zf4 ns y hF W (some ⟨b,o,none⟩) c gl cl gr cr t kk j (hbr.below hb) hkk hjt ht
 have hX':=fun(W:World) (hb:Below w.heap.size w W)=>hX W (some ⟨b,o,none⟩) c gl cl gr cr t B i cut g cap m sp l1 (hbr.below hb) (zac hown hb) hsm (zvK hB hb.size) hm0 hm1 hG.1 (zvK hG.2.1 hjt) ht (fun z hz=>hg z (zvo.2 (.inl hz))) hp1
 have hY':=fun(W:World) (hb:Below w.heap.size w W) (g' cap':Nat) (h1:W.ownsRow B 71 2 (.slice (some ⟨g',0,none⟩) m cap') m (pv (upG sp l1)))=>hY W (some ⟨b,o,none⟩) c gl cl gr cr t B cut j g' cap' m (upG sp l1) l2 (hbr.below hb) h1 (by rw[zdp];exact hsm) (zvK hB hb.size) hm0 hm1 hG.2.1 hjt ht (fun z hz=>hg z (zvo.2 (.inr hz))) hp2
 have hc1:=hG.1;have hc2:=hG.2.1;have Hc3:Hid (Lg t.data.toList (tOf ns x) i cut/\Lg t.data.toList (tOf ns y) cut j):=hG.2.2.1;have Hc4:Hid (∀k,cut<k->k<=j->¬(Lg t.data.toList (tOf ns x) i k/\Lg t.data.toList (tOf ns y) k j)):=hG.2.2.2;have Hu:Hid (upG sp (l1++l2)=upG (upG sp l1) l2):=zfU sp l1 l2;have H0:EndH w (.slice (some ⟨b,o,none⟩) ns.length c) (.slice (some ⟨gl,0,none⟩) ns.length cl) (.slice (some ⟨gr,0,none⟩) ns.length cr) (.string t) (.int .i64 2) (.slice sao nd.set.length scp) (.int .i64 nd.min) (.int .i64 nd.max) (.int .i64 nd.group) gl gr n (.int .i64 x) (.int .i64 y) W0:=⟨hb0,hs0,p0,p1,p2,p3,q0,q1,q2,q3,q4,(hb0.cell (p:=⟨gl,n,none⟩) hlt).trans l0,(hb0.cell (p:=⟨gr,n,none⟩) hrt).trans r0,hlt,hrt⟩;clear hT hk hk1 hc hsc hbr hX hY hE hF hG hp1 hp2 hg k1 k2 p0 p1 p2 p3 q1 q2 q3 q4 l0 r0;obtain⟨-,-,a0,a1,a2,a3,d0,d1,d2,d3,d4,lA,rA,-,-⟩:=id H0
 go_enter Tryz.func66,Tryz.ntmps66
 go_wp2;clear a0 a1 a2 a3 d0 d1 d2 d3 d4 lA rA hW0 c0 c1 c2 c3 c4 q0
 go_loopw [13] (fun k wr=>∃kk:Nat,cut<=kk/\kk<=j/\k=.int .i64 kk/\EndH w (.slice (some ⟨b,o,none⟩) ns.length c) (.slice (some ⟨gl,0,none⟩) ns.length cl) (.slice (some ⟨gr,0,none⟩) ns.length cr) (.string t) (.int .i64 2) (.slice sao nd.set.length scp) (.int .i64 nd.min) (.int .i64 nd.max) (.int .i64 nd.group) gl gr n (.int .i64 x) (.int .i64 y) wr)
  (fun k _=>(intOf k).toNat)
 case atStart=>exact⟨j,hc2,zvJ _,rfl,H0⟩
 case round=>
  clear H0;obtain⟨kk,hk1,hk2,rfl,Hr⟩:=hrel;obtain⟨hbA,hsA,a0A,a1A,a2A,a3A,d0A,d1A,d2A,d3A,d4A,lA,rA,-,-⟩:=Hr;have x0:∀s:ExtU wr,s.W.cell? ⟨w.heap.size,0,none⟩=some (.slice (some ⟨b,o,none⟩) ns.length c):=fun s=>(s.h.cell (p:=⟨w.heap.size,0,none⟩) (by show w.heap.size<_;omega)).trans a0A
  have x1:∀s:ExtU wr,s.W.cell? ⟨w.heap.size,1,none⟩=some (.slice (some ⟨gl,0,none⟩) ns.length cl):=fun s=>(s.h.cell (p:=⟨w.heap.size,1,none⟩) (by show w.heap.size<_;omega)).trans a1A
  have x2:∀s:ExtU wr,s.W.cell? ⟨w.heap.size,2,none⟩=some (.slice (some ⟨gr,0,none⟩) ns.length cr):=fun s=>(s.h.cell (p:=⟨w.heap.size,2,none⟩) (by show w.heap.size<_;omega)).trans a2A
  have x3:∀s:ExtU wr,s.W.cell? ⟨w.heap.size,3,none⟩=some (.string t):=fun s=>(s.h.cell (p:=⟨w.heap.size,3,none⟩) (by show w.heap.size<_;omega)).trans a3A
  have x4:∀s:ExtU wr,s.W.cell? ⟨gl,n,none⟩=some (.int .i64 x):=fun s=>(s.h.cell (p:=⟨gl,n,none⟩) (by have:=hbA.size;show gl<_;omega)).trans lA
  have x5:∀s:ExtU wr,s.W.cell? ⟨gr,n,none⟩=some (.int .i64 y):=fun s=>(s.h.cell (p:=⟨gr,n,none⟩) (by have:=hbA.size;show gr<_;omega)).trans rA
  have hkt:kk<=t.size:=by omega
  go_wp2
  by_cases hkc:kk=cut
  ·subst hkc;have HA:Hid (Lg t.data.toList (tOf ns x) i kk):=Hc3.out.1;have HB2:Hid (Lg t.data.toList (tOf ns y) kk j):=Hc3.out.2;have hLs:∀s:ExtU wr,Calls Tryz.prog 92 #[.agg #[.slice (some ⟨b,o,none⟩) ns.length c,.slice (some ⟨gl,0,none⟩) ns.length cl,.slice (some ⟨gr,0,none⟩) ns.length cr,.string t],.int .i64 x,.int .i64 i,.int .i64 kk] s.W fun e w'=>e=.returned (.bool true)/\∃s':ExtU wr,w'=s'.W:=fun s=>(hL1x kk s.W (zaa hbA hbA.size s.h) hkt).mono fun e w' ⟨q,he,hq,hb⟩=>⟨by rw[he,show q=true from(by first|exact hq.2 HA.out|exact zgB hq HA.out)],⟨⟨w',zaa s.h s.h.size hb⟩,rfl⟩⟩
   have hRs:∀s:ExtU wr,Calls Tryz.prog 92 #[.agg #[.slice (some ⟨b,o,none⟩) ns.length c,.slice (some ⟨gl,0,none⟩) ns.length cl,.slice (some ⟨gr,0,none⟩) ns.length cr,.string t],.int .i64 y,.int .i64 kk,.int .i64 j] s.W fun e w'=>e=.returned (.bool true)/\∃s':ExtU wr,w'=s'.W:=fun s=>(hR1x kk s.W (zaa hbA hbA.size s.h) hkt).mono fun e w' ⟨q,he,hq,hb⟩=>⟨by rw[he,show q=true from(by first|exact hq.2 HB2.out|exact zgB hq HB2.out)],⟨⟨w',zaa s.h s.h.size hb⟩,rfl⟩⟩
   refine za4 21 (fun w'=>∃s:ExtU wr,w'=s.W) (by kernel_rfl) ⟨⟨wr.drew,⟨rfl,rfl,rfl,zvJ _,fun _ _=>rfl⟩⟩,rfl⟩ (by decide) (by kernel_rfl) ?_;intro os hos;simp only[zvD,zvF] at hos;subst hos
   repeat (go_big_quiet_step (first|(go_at_call_of 92 (Value.int IntKind.i64 (x:Int));exact hLs _)|(go_at_call_of 92 (Value.int IntKind.i64 (y:Int));exact hRs _)))
   refine wpQuiet_nil ?_;rintro w6 ⟨⟨Wb,hb6⟩,rfl⟩ r hr;simp only[zuX,zuY] at hr;subst hr;have H6:EndH w (.slice (some ⟨b,o,none⟩) ns.length c) (.slice (some ⟨gl,0,none⟩) ns.length cl) (.slice (some ⟨gr,0,none⟩) ns.length cr) (.string t) (.int .i64 2) (.slice sao nd.set.length scp) (.int .i64 nd.min) (.int .i64 nd.max) (.int .i64 nd.group) gl gr n (.int .i64 x) (.int .i64 y) w6:=EndH.call ⟨hbA,hsA,a0A,a1A,a2A,a3A,d0A,d1A,d2A,d3A,d4A,lA,rA,hlt,hrt⟩ hb6;have H7:=H6.call ((Below.refl w6.heap.size w6).drew);clear hLs hRs hL1x hR1x HA HB2 x0 x1 x2 x3 x4 x5 hbA hsA a0A a1A a2A a3A d0A d1A d2A d3A d4A lA rA;obtain⟨-,-,e0,e1,e2,e3,-,-,-,-,-,eL,eR,-,-⟩:=H6;have hfd:Below w.heap.size w w6.drew/\w.heap.size+1<w6.drew.heap.size/\w6.drew.cell? ⟨w.heap.size,0,none⟩=some (.slice (some ⟨b,o,none⟩) ns.length c)/\w6.drew.cell? ⟨w.heap.size,1,none⟩=some (.slice (some ⟨gl,0,none⟩) ns.length cl)/\w6.drew.cell? ⟨w.heap.size,2,none⟩=some (.slice (some ⟨gr,0,none⟩) ns.length cr)/\w6.drew.cell? ⟨w.heap.size,3,none⟩=some (.string t)/\w6.drew.cell? ⟨gl,n,none⟩=some (.int .i64 x)/\w6.drew.cell? ⟨gr,n,none⟩=some (.int .i64 y):=⟨H7.1,H7.2.1,e0,e1,e2,e3,eL,eR⟩;have HB0:=hfd.1;clear H7;go_wp2;clear e0 e1 e2 e3 eL eR
   go_region_held3 (fun w'=>Below w.heap.size w w'/\w.heap.size+1<w'.heap.size/\w'.cell? ⟨w.heap.size,0,none⟩=some (.slice (some ⟨b,o,none⟩) ns.length c)/\w'.cell? ⟨w.heap.size,1,none⟩=some (.slice (some ⟨gl,0,none⟩) ns.length cl)/\w'.cell? ⟨w.heap.size,2,none⟩=some (.slice (some ⟨gr,0,none⟩) ns.length cr)/\w'.cell? ⟨w.heap.size,3,none⟩=some (.string t)/\w'.cell? ⟨gl,n,none⟩=some (.int .i64 x)/\w'.cell? ⟨gr,n,none⟩=some (.int .i64 y)) ((first|exact hfd|exact zc0 hlt hrt (by assumption) hb8|exact zc0 hlt hrt (by assumption) hb9|go_keep)) ((first|(have hgo:=own8;go_at_call 66;refine(hY' _ (by first|exact HB0|exact(‹Below w.heap.size w _/\_›).1) g8 cap8 hgo).mono ?_;rintro e w9 ⟨g9,cap9,rfl,own9,hb9⟩)|(go_at_call 66;refine(hX' _ (by first|exact HB0|exact(‹Below w.heap.size w _/\_›).1)).mono ?_;rintro e w8 ⟨g8,cap8,rfl,own8,hb8⟩)))
   all_goals
    have bel:=zaa (zaa HB0 HB0.size hb8) (zaa HB0 HB0.size hb8).size hb9;rw[<-Hu.out] at own9;go_wp2;exact zvV (v:=.slice (some ⟨g9,0,none⟩) m cap9) (by simp[results,Tryz.results66,go_sem]) rfl ⟨g9,cap9,rfl,own9,bel⟩
  ·have hlt2:cut<kk:=by omega
   by_cases hA:Lg t.data.toList (tOf ns x) i kk
   ·have HA:Hid (Lg t.data.toList (tOf ns x) i kk):=hA;have HB2:Hid (¬Lg t.data.toList (tOf ns y) kk j):=fun h=>Hc4.out kk hlt2 hk2 ⟨hA,h⟩
    clear hA;have hLs:∀s:ExtU wr,Calls Tryz.prog 92 #[.agg #[.slice (some ⟨b,o,none⟩) ns.length c,.slice (some ⟨gl,0,none⟩) ns.length cl,.slice (some ⟨gr,0,none⟩) ns.length cr,.string t],.int .i64 x,.int .i64 i,.int .i64 kk] s.W fun e w'=>e=.returned (.bool true)/\∃s':ExtU wr,w'=s'.W:=fun s=>(hL1x kk s.W (zaa hbA hbA.size s.h) hkt).mono fun e w' ⟨q,he,hq,hb⟩=>⟨by rw[he,show q=true from(by first|exact hq.2 HA.out|exact zgB hq HA.out)],⟨⟨w',zaa s.h s.h.size hb⟩,rfl⟩⟩
    have hRs:∀s:ExtU wr,Calls Tryz.prog 92 #[.agg #[.slice (some ⟨b,o,none⟩) ns.length c,.slice (some ⟨gl,0,none⟩) ns.length cl,.slice (some ⟨gr,0,none⟩) ns.length cr,.string t],.int .i64 y,.int .i64 kk,.int .i64 j] s.W fun e w'=>e=.returned (.bool false)/\∃s':ExtU wr,w'=s'.W:=fun s=>(hR1x kk s.W (zaa hbA hbA.size s.h) hkt).mono fun e w' ⟨q,he,hq,hb⟩=>⟨by rw[he,show q=false from(by first|exact hq.2 HB2.out|exact zgB hq HB2.out)],⟨⟨w',zaa s.h s.h.size hb⟩,rfl⟩⟩
    refine za4 21 (fun w'=>∃s:ExtU wr,w'=s.W) (by kernel_rfl) ⟨⟨wr.drew,⟨rfl,rfl,rfl,zvJ _,fun _ _=>rfl⟩⟩,rfl⟩ (by decide) (by kernel_rfl) ?_;intro os hos;simp only[zvD,zvF] at hos;subst hos
    repeat (go_big_quiet_step (first|(go_at_call_of 92 (Value.int IntKind.i64 (x:Int));exact hLs _)|(go_at_call_of 92 (Value.int IntKind.i64 (y:Int));exact hRs _)))
    refine wpQuiet_nil ?_;rintro w6 ⟨⟨Wb,hb6⟩,rfl⟩ r hr;simp only[zuX,zuY] at hr;subst hr;have H6:EndH w (.slice (some ⟨b,o,none⟩) ns.length c) (.slice (some ⟨gl,0,none⟩) ns.length cl) (.slice (some ⟨gr,0,none⟩) ns.length cr) (.string t) (.int .i64 2) (.slice sao nd.set.length scp) (.int .i64 nd.min) (.int .i64 nd.max) (.int .i64 nd.group) gl gr n (.int .i64 x) (.int .i64 y) w6:=EndH.call ⟨hbA,hsA,a0A,a1A,a2A,a3A,d0A,d1A,d2A,d3A,d4A,lA,rA,hlt,hrt⟩ hb6;have H6':Hid _:=H6;clear H6 hLs hRs hL1x hR1x hX' hY' x0 x1 x2 x3 x4 x5 hbA hsA a0A a1A a2A a3A d0A d1A d2A d3A d4A lA rA;go_wp2
    go_roundw
    case rel=>exact⟨kk-1,by omega,by omega,by go_num,H6'.out⟩
    case measure=>simp[intOf];omega
   ·have HA:Hid (¬Lg t.data.toList (tOf ns x) i kk):=hA;clear hA;have hLs:∀s:ExtU wr,Calls Tryz.prog 92 #[.agg #[.slice (some ⟨b,o,none⟩) ns.length c,.slice (some ⟨gl,0,none⟩) ns.length cl,.slice (some ⟨gr,0,none⟩) ns.length cr,.string t],.int .i64 x,.int .i64 i,.int .i64 kk] s.W fun e w'=>e=.returned (.bool false)/\∃s':ExtU wr,w'=s'.W:=fun s=>(hL1x kk s.W (zaa hbA hbA.size s.h) hkt).mono fun e w' ⟨q,he,hq,hb⟩=>⟨by rw[he,show q=false from(by first|exact hq.2 HA.out|exact zgB hq HA.out)],⟨⟨w',zaa s.h s.h.size hb⟩,rfl⟩⟩
    refine za4 21 (fun w'=>∃s:ExtU wr,w'=s.W) (by kernel_rfl) ⟨⟨wr.drew,⟨rfl,rfl,rfl,zvJ _,fun _ _=>rfl⟩⟩,rfl⟩ (by decide) (by kernel_rfl) ?_;intro os hos;simp only[zvD,zvF] at hos;subst hos
    repeat (go_big_quiet_step (first|(go_at_call_of 92 (Value.int IntKind.i64 (x:Int));exact hLs _)))
    refine wpQuiet_nil ?_;rintro w6 ⟨⟨Wb,hb6⟩,rfl⟩ r hr;simp only[zuX,zuY] at hr;subst hr;have H6:EndH w (.slice (some ⟨b,o,none⟩) ns.length c) (.slice (some ⟨gl,0,none⟩) ns.length cl) (.slice (some ⟨gr,0,none⟩) ns.length cr) (.string t) (.int .i64 2) (.slice sao nd.set.length scp) (.int .i64 nd.min) (.int .i64 nd.max) (.int .i64 nd.group) gl gr n (.int .i64 x) (.int .i64 y) w6:=EndH.call ⟨hbA,hsA,a0A,a1A,a2A,a3A,d0A,d1A,d2A,d3A,d4A,lA,rA,hlt,hrt⟩ hb6;have H6':Hid _:=H6;clear H6 hLs hL1x hR1x hX' hY' x0 x1 x2 x3 x4 x5 hbA hsA a0A a1A a2A a3A d0A d1A d2A d3A d4A lA rA;go_wp2
    go_roundw
    case rel=>exact⟨kk-1,by omega,by omega,by go_num,H6'.out⟩
    case measure=>simp[intOf];omega
end
section
attribute [local go_sem ↓] Go.wp_at_zero Go.wp_at_succ
theorem zta(ns:List zaq)(x:Nat)(hE:zcl ns x)(t:ByteArray)(mx:Int)(hp:0<mx)(i j:Nat)(hn:∀k,i<=k->k<=j->¬(Lg t.data.toList (tOf ns x) i k/\Lg t.data.toList (.rep (tOf ns x) ((0:Nat):Int) (mx-1)) k j)):CpC ns x t 0 mx i j []:=by
 intro w ao c gl cl gr cr B g cap m sp hbr hown hsm hB hm0 hm1 hij hjt ht hg hmn hmx;obtain⟨W0,hW0⟩:∃W0,w.alloc (.cells #[.slice ao ns.length c,.slice (some ⟨gl,0,none⟩) ns.length cl,.slice (some ⟨gr,0,none⟩) ns.length cr,.string t] 119)=W0:=⟨_,rfl⟩;have hb0:Below w.heap.size w W0:=by rw[<-hW0];exact(Below.refl _ _).alloc (zvJ _) _
 have k0:W0.heap[w.heap.size]?=some (BoxB ao ns c gl cl gr cr t):=by rw[<-hW0];exact zvZ _ _
 have hd2:decide (0<mx)=true:=by simp[hp]
 have hd3:(mx==0)=false:=by simp;omega
 have hd4:(mx == -1)=false:=by simp;omega
 have hIn:=fun(kk:Nat) (W:World) (hb:Below w.heap.size w W) (hkk:kk<=t.size)=>zf4 ns x hE W ao c gl cl gr cr t i kk (hbr.below hb) (by omega) hkk ht
 have hCo:=fun(kk:Nat) (W:World) (hb:Below w.heap.size w W) (hkk:kk<=t.size)=>zj5 ns x hE W ao c gl cl gr cr t 0 (mx-1) kk j (by omega) (by omega) (hbr.below hb) hkk hjt ht
 have Hn:Hid (∀k,i<=k->k<=j->¬(Lg t.data.toList (tOf ns x) i k/\Lg t.data.toList (.rep (tOf ns x) ((0:Nat):Int) (mx-1)) k j)):=hn;clear hn hE hbr hg;simp only[show ((0:Nat):Int)=0 from rfl] at hCo ⊢
 go_enter Tryz.func93,Tryz.ntmps93
 go_wp2;clear hW0
 go_loopw [18] (fun k wr=>((∃kk:Nat,i<=kk/\kk<=j/\k=.int .i64 kk)\/k=.int .i64 ((i:Int)-1))/\Below w.heap.size w wr/\wr.heap[w.heap.size]?=some (BoxB ao ns c gl cl gr cr t))
  (fun k _=>(intOf k+1).toNat)
 case atStart=>exact⟨.inl ⟨j,hij,zvJ _,rfl⟩,hb0,k0⟩
 case round=>
  clear k0;obtain⟨⟨kk,hk1,hk2,rfl⟩|rfl,hbr,kr⟩:=hrel
  ·obtain⟨a0,a1,a2,a3⟩:=zaH kr;have hkt:kk<=t.size:=by omega
   have hge2:(i:Int)<=(kk:Int):=by omega
   go_wp2_with fail
   refine(hIn kk _ hbr hkt).mono ?_;rintro e w4 ⟨q,rfl,hq,hb4⟩;have Hb1:Hid (q=true↔Lg t.data.toList (tOf ns x) i kk):=hq;clear hq;have kr4:=zaz kr hb4;have hbr4:=zaa hbr hbr.size hb4;obtain⟨c0,c1,c2,c3⟩:=zaH kr4;have Hnx:Hid ((∃k2:Nat,i<=k2/\k2<=j/\Value.int .i64 ((kk:Int)-1)=Value.int .i64 (k2:Int))\/Value.int .i64 ((kk:Int)-1)=Value.int .i64 ((i:Int)-1)):=by
    rcases zvM i kk with h|h
    ·exact .inl ⟨kk-1,by omega,by omega,by congr 1;omega⟩
    ·exact .inr (by congr 1;omega)
   clear a0 a1 a2 a3 kr hbr hb4;cases q
   ·go_wp2
    go_roundw
    case rel=>exact⟨Hnx.out,hbr4,kr4⟩
    case measure=>first|(simp[intOf];done)|(simp[intOf];omega)
   ·go_wp2_with fail
    refine(hCo kk _ hbr4 hkt).mono ?_;rintro e w5 ⟨q,rfl,hq,hb5⟩;have kr5:=zaz kr4 hb5;have hbr5:=zaa hbr4 hbr4.size hb5;obtain rfl:q=false:=zrb hq fun h=>Hn.out kk hk1 hk2 ⟨Hb1.out.1 (by first|trivial|rfl),h⟩
    clear c0 c1 c2 c3 kr4 hbr4 hb5 hq;go_wp2
    go_roundw
    case rel=>exact⟨Hnx.out,hbr5,kr5⟩
    case measure=>first|(simp[intOf];done)|(simp[intOf];omega)
  ·have hge3:¬(i:Int)<=(i:Int)-1:=by omega
   have hge4:decide ((i:Int)<=(i:Int)-1)=false:=by simp;omega
   go_wp2;exact zvV (v:=.slice (some ⟨g,0,none⟩) m cap) (by simp[results,Tryz.results93,go_sem]) rfl ⟨g,cap,rfl,zac hown hbr,hbr⟩
theorem znz(ns:List zaq)(x:Nat)(hE:zcl ns x)(hX:PlcC ns x)(t:ByteArray)(mn:Nat)(mx:Int)(i j:Nat)(l:List Up)(h:CpR (Lg t.data.toList (tOf ns x)) (Pl t.data.toList (tOf ns x)) (fun mn mx i j=>Lg t.data.toList (.rep (tOf ns x) mn mx) i j) mn mx i j l)(hb:mx=-1\/(mn:Int)<=mx):CpC ns x t mn mx i j l:=by
 induction h with
 |done i j=>exact zrf ns x t 0 0 i j ⟨rfl,rfl⟩
 |void i=>exact zrh ns x t 0 (-1) i i ⟨rfl,rfl,rfl⟩
 |out mx i j hm hn=>exact zta ns x hE t mx hm i j hn
 |must mn mx i j k l1 l2 g h1 h2 ih=>
  by_cases hp:0<mx
  ·simp only[zv3 hp] at g h2 ih;exact zo2 ns x hE hX t (mn+1) mn mx rfl hp i j k l1 l2 g h1 (ih (by omega))
  ·obtain rfl:mx=-1:=by omega
   simp only[zv2 hp] at g h2 ih;exact zo1 ns x hE hX t (mn+1) mn rfl i j k l1 l2 g h1 (ih (by simp))
 |may mx i j k l1 l2 hm g h1 h2 ih=>exact zs9 ns x hE hX t mx hm i j k l1 l2 g h1 (ih (by omega))
 |more i j k l1 l2 hi g h1 h2 ih=>exact zrg ns x hE hX t i j k l1 l2 g h1 (ih (by simp))
theorem zr8(ns:List zaq)(n x mn:Nat)(hn:n<ns.length)(hk:zat ns n=4)(hT:tOf ns n=.rep (tOf ns x) mn (ns.getD n .zero).max)(hL:zbL ns n=x)(hE:zcl ns x)(hX:PlcC ns x)(hm1:(ns.getD n .zero).min=mn)(hm2:mn<=255)(hm3:(ns.getD n .zero).max=-1\/((mn:Int)<=(ns.getD n .zero).max/\(ns.getD n .zero).max<=255)):PlcC ns n:=by
 intro w ao c gl cl gr cr t B i j g cap m sp l hbr hown hsm hB hm0 hm5 hij hjt ht hg hpl;rw[hT] at hpl;obtain⟨ao2,cap2,hv,hml,hc⟩:=hbr.nodes;cases hv;obtain⟨b,o,sv,nd,rfl,Hn,hbl,c0,c1,c2,c3,c4,hsv⟩:=hc.elem (Below.refl _ _) hn;have hk1:nd.kind=4:=by rw[<-hk];unfold zat;rw[Hn.out]
 rw[hk1] at c0;obtain⟨sao,scp,rfl,hsm2,hsc⟩:=hsv;have l0:=hbr.left n hn;rw[hL] at l0;have r0:=hbr.right n hn;obtain⟨ri,hri⟩:∃ri,zbD ns n=ri:=⟨_,rfl⟩;rw[hri] at r0;have hlt:=hbr.ltl;have hrt:=hbr.ltr;have hi0:(0:Int)<=(n:Int):=by omega
 have hi1:(n:Int)<(ns.length:Int):=by omega
 obtain⟨W0,hW0⟩:∃W0,(w.alloc (.cells #[.slice (some ⟨b,o,none⟩) ns.length c,.slice (some ⟨gl,0,none⟩) ns.length cl,.slice (some ⟨gr,0,none⟩) ns.length cr,.string t] 119)).alloc (.cells #[.int .i64 4,.slice sao nd.set.length scp,.int .i64 nd.min,.int .i64 nd.max,.int .i64 nd.group] 149)=W0:=⟨_,rfl⟩;have hb0:Below w.heap.size w W0:=by rw[<-hW0];exact((Below.refl _ _).alloc (zvJ _) _).alloc (by simp) _
 have k1:W0.heap[w.heap.size]?=some (.cells #[.slice (some ⟨b,o,none⟩) ns.length c,.slice (some ⟨gl,0,none⟩) ns.length cl,.slice (some ⟨gr,0,none⟩) ns.length cr,.string t] 119 (0,0)):=by rw[<-hW0];exact zak (zvZ _ _)
 have k2:W0.heap[w.heap.size+1]?=some (.cells #[.int .i64 4,.slice sao nd.set.length scp,.int .i64 nd.min,.int .i64 nd.max,.int .i64 nd.group] 149 (0,0)):=by rw[<-hW0];exact zdj _ _ _
 obtain⟨p0,p1,p2,p3⟩:=zaH k1;obtain⟨q0,q1,q2,q3,q4⟩:=zbV k2;have hs0:w.heap.size+1<W0.heap.size:=zcp k2;rw[Hn.out] at hpl hm1 hm3;have hpl:CpR (Lg t.data.toList (tOf ns x)) (Pl t.data.toList (tOf ns x)) (fun mn mx i j=>Lg t.data.toList (.rep (tOf ns x) mn mx) i j) mn nd.max i j l:=by
  have h:=hpl;simp only[Pl,zuO] at h;exact h
 have hC:=znz ns x hE hX t mn nd.max i j l hpl (by omega);have hX':=fun(W:World) (hb:Below w.heap.size w W)=>hC W (some ⟨b,o,none⟩) c gl cl gr cr B g cap m sp (hbr.below hb) (zac hown hb) hsm (zvK hB hb.size) hm0 hm5 hij hjt ht hg hm2 hm3
 have H0:EndH w (.slice (some ⟨b,o,none⟩) ns.length c) (.slice (some ⟨gl,0,none⟩) ns.length cl) (.slice (some ⟨gr,0,none⟩) ns.length cr) (.string t) (.int .i64 4) (.slice sao nd.set.length scp) (.int .i64 nd.min) (.int .i64 nd.max) (.int .i64 nd.group) gl gr n (.int .i64 x) (.int .i64 ri) W0:=⟨hb0,hs0,p0,p1,p2,p3,q0,q1,q2,q3,q4,(hb0.cell (p:=⟨gl,n,none⟩) hlt).trans l0,(hb0.cell (p:=⟨gr,n,none⟩) hrt).trans r0,hlt,hrt⟩;rw[hm1] at H0 c2 hW0;have H1:=H0.call ((Below.refl W0.heap.size W0).drew);clear hT hk hk1 hc hsc hbr hX hE hC hpl hg hri hm3 k1 k2 p0 p1 p2 p3 q0 q1 q2 q3 q4 l0 r0 hm1;obtain⟨-,-,a0,a1,a2,a3,d0,d1,d2,d3,d4,lA,rA,-,-⟩:=H0
 go_enter Tryz.func66,Tryz.ntmps66
 go_wp2;clear a0 a1 a2 a3 d0 d1 d2 d3 d4 lA rA hW0 c0 c1 c2 c3 c4;have HB0:=H1.1;obtain⟨-,hsC,a0C,a1C,a2C,a3C,d0C,d1C,d2C,d3C,d4C,lC,rC,-,-⟩:=H1
 go_region_held3 (fun w'=>Below w.heap.size w w'/\w'.cell? ⟨w.heap.size,0,none⟩=some (.slice (some ⟨b,o,none⟩) ns.length c)/\w'.cell? ⟨w.heap.size,1,none⟩=some (.slice (some ⟨gl,0,none⟩) ns.length cl)/\w'.cell? ⟨w.heap.size,2,none⟩=some (.slice (some ⟨gr,0,none⟩) ns.length cr)/\w'.cell? ⟨w.heap.size,3,none⟩=some (.string t)/\w'.cell? ⟨gl,n,none⟩=some (.int .i64 x)/\w'.cell? ⟨w.heap.size+1,2,none⟩=some (.int .i64 mn)/\w'.cell? ⟨w.heap.size+1,3,none⟩=some (.int .i64 nd.max)) ((first|exact⟨HB0,a0C,a1C,a2C,a3C,lC,d2C,d3C⟩|(exact⟨zaa HB0 HB0.size hb8,(hb8.cell (p:=⟨w.heap.size,0,none⟩) (by show w.heap.size<_;omega)).trans a0C,(hb8.cell (p:=⟨w.heap.size,1,none⟩) (by show w.heap.size<_;omega)).trans a1C,(hb8.cell (p:=⟨w.heap.size,2,none⟩) (by show w.heap.size<_;omega)).trans a2C,(hb8.cell (p:=⟨w.heap.size,3,none⟩) (by show w.heap.size<_;omega)).trans a3C,(hb8.cell (p:=⟨gl,n,none⟩) (by have:=HB0.size;show gl<_;omega)).trans lC,(hb8.cell (p:=⟨w.heap.size+1,2,none⟩) (by show w.heap.size+1<_;omega)).trans d2C,(hb8.cell (p:=⟨w.heap.size+1,3,none⟩) (by show w.heap.size+1<_;omega)).trans d3C⟩)|go_keep)) ((go_at_call 93;refine(hX' _ (by first|exact HB0|exact(‹Below w.heap.size w _/\_›).1)).mono ?_;rintro e w8 ⟨g8,cap8,rfl,own8,hb8⟩))
 all_goals
  have bel:=zaa HB0 HB0.size hb8;go_wp2;exact zvV (v:=.slice (some ⟨g8,0,none⟩) m cap8) (by simp[results,Tryz.results66,go_sem]) rfl ⟨g8,cap8,rfl,own8,bel⟩
end
theorem zg8:∀(l:List Int),l.Nodup->∀x,l.count x<=1
 |[],_,x=>by simp
 |a::l,h,x=>by
  obtain⟨h1,h2⟩:=List.nodup_cons.1 h;have ih:=zg8 l h2 x;rw[List.count_cons]
  by_cases e:a=x
  ·subst e;rw[List.count_eq_zero_of_not_mem h1];simp
  ·have:(a==x)=false:=zvU.2 e;rw[this];simp;exact ih
theorem zgF:∀(l:List Int),(∀x,x∈l->l.count x<=1)->l.Nodup
 |[],_=>List.nodup_nil
 |a::l,h=>by
  refine List.nodup_cons.2 ⟨fun hm=>?_,zgF l fun x hx=>?_⟩
  ·have h1:=h a (zvr ..);rw[List.count_cons_self] at h1;have:=List.count_pos_iff.2 hm;omega
  ·have h1:=h x (zvq _ hx);have:=List.count_le_count_cons (a:=x) (b:=a) (l:=l);omega
theorem zfI(G:Int):∀(gs done:List Int),zcj G done gs=true↔(∀x,x∈gs->1<=x/\x<=G)/\(∀x,x∈gs->x∉done)/\gs.Nodup/\((done.length:Int)+gs.length=G)
 |[],done=>by simp[zcj]
 |g::gs,done=>by
  unfold zcj
  by_cases hc:g<1\/G<g\/g∈done
  ·rw[zv3 hc];constructor
   ·intro h;cases h
   ·rintro ⟨h1,h2,_,_⟩;have a1:=h1 g (zvr ..);have a2:=h2 g (zvr ..);rcases hc with h|h|h
    ·omega
    ·omega
    ·exact absurd h a2
  ·rw[zv2 hc,zfI G gs (g::done)];constructor
   ·rintro ⟨h1,h2,h3,h4⟩;refine⟨fun x hx=>?_,fun x hx=>?_,?_,?_⟩
    ·rcases zvp.1 hx with rfl|hx
     ·omega
     ·exact h1 x hx
    ·rcases zvp.1 hx with rfl|hx
     ·exact fun h=>hc (.inr (.inr h))
     ·exact fun h=>h2 x hx (zvq _ h)
    ·exact List.nodup_cons.2 ⟨fun hm=>h2 g hm (zvr ..),h3⟩
    ·simp at h4 ⊢;omega
   ·rintro ⟨h1,h2,h3,h4⟩;obtain⟨h5,h6⟩:=List.nodup_cons.1 h3;refine⟨fun x hx=>h1 x (zvq _ hx),fun x hx hm=>?_,h6,?_⟩
    ·rcases zvp.1 hm with rfl|hm
     ·exact h5 hx
     ·exact h2 x (zvq _ hx) hm
    ·simp at h4 ⊢;omega
def cntO(gs:List Int):Nat->Nat
 |0=>0
 |n+1=>cntO gs n+gs.count ((n:Int)+1)
def inR(n:Nat)(x:Int):Bool:=decide (1<=x/\x<=n)
theorem zgI(n:Nat):∀gs:List Int,(gs.filter (inR (n+1))).length=(gs.filter (inR n)).length+gs.count ((n:Int)+1)
 |[]=>rfl
 |g::gs=>by
  have ih:=zgI n gs;rw[List.filter_cons,List.filter_cons,List.count_cons]
  by_cases e:g=(n:Int)+1
  ·have h1:inR (n+1) g=true:=by simp[inR];omega
   have h2:inR n g=false:=by simp[inR];omega
   have h3:(g==(n:Int)+1)=true:=beq_iff_eq.2 e;rw[h1,h2,h3];simp;omega
  ·have h3:(g==(n:Int)+1)=false:=zvU.2 e;have h1:inR (n+1) g=inR n g:=by simp only[inR];rw[decide_eq_decide];omega
   rw[h1,h3]
   by_cases h2:inR n g=true
   ·rw[zv3 h2,zv3 h2];simp;omega
   ·rw[zv2 h2,zv2 h2];simp;omega
theorem zoY(gs:List Int):∀n,cntO gs n=(gs.filter (inR n)).length
 |0=>by
  have:gs.filter (inR 0)=[]:=List.filter_eq_nil_iff.2 fun x _=>by simp[inR];omega
  rw[this];rfl
 |n+1=>by rw[cntO,zoY gs n,zgI]
theorem zsI(gs:List Int)(h:∀x,gs.count x<=1):∀n,cntO gs n<=n
 |0=>zvJ _
 |n+1=>by have:=zsI gs h n;have:=h ((n:Int)+1);rw[cntO];omega
theorem zoX(gs:List Int)(h:∀x,gs.count x<=1):∀n,cntO gs n=n->∀i,i<n->gs.count ((i:Int)+1)=1
 |0,_,i,hi=>absurd hi (zvQ _)
 |n+1,he,i,hi=>by
  have h1:=zsI gs h n;have h2:=h ((n:Int)+1);rw[cntO] at he
  by_cases e:i=n
  ·subst e;omega
  ·exact zoX gs h n (by omega) i (by omega)
theorem zmx(gs:List Int):∀n:Nat,(∀i:Nat,i<n->gs.count ((i:Int)+1)=1)->cntO gs n=n
 |0,_=>rfl
 |n+1,h=>by rw[cntO,zmx gs n fun i hi=>h i (by omega),h n (by omega)]
theorem zgQ(G:Int)(hG:0<=G)(gs:List Int):zcj G [] gs=(((gs.length:Int)==G)&&zhT G gs):=by
 obtain⟨n,rfl⟩:=Int.eq_ofNat_of_zero_le hG;have key:zcj (n:Int) [] gs=true↔(gs.length=n/\∀i,i<n->gs.count ((i:Int)+1)=1):=by
  rw[zfI];constructor
  ·rintro ⟨h1,_,h3,h4⟩;have hl:gs.length=n:=by simp at h4;omega
   refine⟨hl,?_⟩;have hc:=zg8 gs h3;refine zoX gs hc n ?_;rw[zoY,List.filter_eq_self.2 fun x hx=>by have:=h1 x hx;simp[inR];omega];exact hl
  ·rintro ⟨hl,h1⟩;have he:=zmx gs n h1;rw[zoY] at he;have hf:gs.filter (inR n)=gs:=List.Sublist.eq_of_length_le List.filter_sublist (by omega);have hr:∀x,x∈gs->1<=x/\x<=(n:Int):=by
    intro x hx;have:=List.filter_eq_self.1 hf x hx
    simpa [inR] using this
   refine⟨hr,fun _ _ h=>by simp at h,zgF gs fun x hx=>?_,by simp;omega⟩;have hx1:=hr x hx;have:=h1 (x-1).toNat (by omega);rw[show (((x-1).toNat:Nat):Int)+1=x by omega] at this;omega
 have key2:(((gs.length:Int)==(n:Int))&&zhT (n:Int) gs)=true↔(gs.length=n/\∀i,i<n->gs.count ((i:Int)+1)=1):=by
  rw[zuK,beq_iff_eq];unfold zhT;rw[zuP];constructor
  ·rintro ⟨h1,h2⟩;exact⟨by omega,fun i hi=>by simpa using h2 i (by simpa using hi)⟩
  ·rintro ⟨h1,h2⟩;exact⟨by omega,fun i hi=>by simpa using h2 i (by simpa using hi)⟩
 cases ha:zcj (n:Int) [] gs<;>cases hb:(((gs.length:Int)==(n:Int))&&zhT (n:Int) gs)
 ·rfl
 ·rw[key.2 (key2.1 hb)] at ha;cases ha
 ·rw[key2.2 (key.1 ha)] at hb;cases hb
 ·rfl
theorem zfL:∀bs:List zah,allB bs=true->za8 bs=some (bs.map zjD)
 |[],_=>rfl
 |b::bs,h=>by
  unfold allB at h;rw[List.all_cons,zuK] at h;obtain⟨h1,h2⟩:=h;rw[zuK] at h1;have ih:=zfL bs h2;have hl:=(zi9 b.nodes h1.1 (ze6 h1.1) h1.2).2;unfold za8;rw[hl,ih]
  rfl
theorem zfK:∀bs:List zah,allB bs=false->za8 bs=none
 |[],h=>by simp[allB] at h
 |b::bs,h=>by
  unfold za8
  by_cases hb:(zcA b.nodes&&b.nodes.all zaB)=true
  ·have h2:allB bs=false:=by
    unfold allB at h ⊢;rw[List.all_cons,hb,zuN] at h;exact h
   rw[zfK bs h2];cases ze8 b.nodes<;>rfl
  ·rw[zrL b.nodes (by
    cases hk:zcA b.nodes
    ·exact .inl rfl
    ·right
     cases ha:b.nodes.all zaB
     ·rfl
     ·rw[hk,ha] at hb;exact absurd rfl hb)]
theorem ziY:∀(st:List Int) (s:Int),0<=s->s<=2001->(∀x,x∈st->0<=x)->st.foldl (fun s a=>capW (s+a)) s=capW (s+st.sum)
 |[],s,h0,h1,_=>by simp[zeH h1]
 |a::st,s,h0,h1,h=>by
  have ha:=h a (zvr ..);have hc:=zgD (show 0<=s+a by omega);rw[List.foldl_cons,ziY st (capW (s+a)) hc.1 hc.2 fun x hx=>h x (zvq _ hx),List.sum_cons];have hs:0<=st.sum:=by
   have:∀l:List Int,(∀x,x∈l->0<=x)->0<=l.sum:=by
    intro l
    induction l with
    |nil=>intro _;simp
    |cons b l ih=>intro hl;have:=ih fun x hx=>hl x (zvq _ hx);have:=hl b (zvr ..);rw[List.sum_cons];omega
   exact this st fun x hx=>h x (zvq _ hx)
  unfold capW;split<;>split<;>split<;>omega
theorem zhn:∀bs:List zah,zcG bs=(bs.map zjD).sum
 |[]=>rfl
 |b::bs=>by rw[zcG,zhn bs];simp
theorem zkX(bs:List zah)(h:allB bs=true):decide (zbo (bs.map zjD)<=2000)=decide (zcG bs<=2000):=by
 unfold zbo;rw[ziY _ 0 (by omega) (by omega) (by
  intro x hx;obtain⟨b,hb,rfl⟩:=zvs.1 hx;have:=zuP.1 h b hb;rw[zuK] at this;have:=zgv this.1 (ze6 this.1) this.2;omega),<-zhn,Int.zero_add,decide_eq_decide]
 unfold capW;split<;>omega
theorem zqz(G:Int)(bs:List zah):zdY G bs=zbP G bs:=by
 unfold zdY zbP
 by_cases hG:0<=G/\G<=500
 ·rw[zgQ G hG.1];cases ha:allB bs
  ·rw[zfK bs ha];simp
  ·rw[zfL bs ha];simp only[zkX bs ha,Bool.and_true];cases decide (1<=bs.length/\bs.length<=2000)<;>cases decide (0<=G/\G<=500)<;>cases decide (zaF bs<=5000)<;>cases ((zba bs).length:Int)==G<;>simp
 ·have:decide (0<=G/\G<=500)=false:=by simpa using hG
  rw[this];simp
section
attribute [local go_sem ↓] Go.wp_at_zero Go.wp_at_succ
def gmem:Pt->Int->Prop
 |.set _,_=>False
 |.seq p q,x=>gmem p x\/gmem q x
 |.alt p q,x=>gmem p x\/gmem q x
 |.rep b _ _,x=>gmem b x
 |.grp b g,x=>x=g\/gmem b x
theorem zd7{u:Word}:∀(p:Pt) (i j:Nat) (l:List Up),Pl u p i j l->∀x∈l,gmem p x.1
 |.set _,_,_,l,h,x,hx=>by have h:l=[]:=h;subst h;cases hx
 |.grp b g,i,j,l,⟨m,e,h⟩,x,hx=>by
  subst e;rcases zvp.1 hx with rfl|hx
  ·exact .inl rfl
  ·exact .inr (zd7 b i j m h x hx)
 |.seq p q,i,j,l,⟨k,l1,l2,_,h1,h2,e⟩,x,hx=>by
  subst e;rcases zvo.1 hx with hx|hx
  ·exact .inl (zd7 p i k l1 h1 x hx)
  ·exact .inr (zd7 q k j l2 h2 x hx)
 |.alt p q,i,j,l,h,x,hx=>by
  rcases h with ⟨_,h⟩|⟨_,h⟩
  ·exact .inl (zd7 p i j l h x hx)
  ·exact .inr (zd7 q i j l h x hx)
 |.rep b mn mx,i,j,l,h,x,hx=>by
  replace h:CpR (Lg u b) (Pl u b) (fun mn mx i j=>Lg u (.rep b mn mx) i j) mn.toNat mx i j l:=h;show gmem b x.1;have ih:=zd7 (u:=u) b;generalize mn.toNat=n at h
  induction h with
  |done=>cases hx
  |void=>cases hx
  |out=>cases hx
  |must _ _ i j k l1 l2 _ h1 _ ihc=>
   rcases zvo.1 hx with hx|hx
   ·exact ih i k l1 h1 x hx
   ·exact ihc hx
  |may _ i j k l1 l2 _ _ h1 _ ihc=>
   rcases zvo.1 hx with hx|hx
   ·exact ih i k l1 h1 x hx
   ·exact ihc hx
  |more i j k l1 l2 _ _ h1 _ ihc=>
   rcases zvo.1 hx with hx|hx
   ·exact ih i k l1 h1 x hx
   ·exact ihc hx
theorem zpx:∀(ns:List zaq) (n:Nat),n<ns.length->(ns.getD n .zero).kind=5->(ns.getD n .zero).group∈grp ns
 |a::ns,0,_,h=>by
  have h:a.kind=5:=h;show a.group∈grp (a::ns);rw[grp,zv3 h];simp
 |a::ns,n+1,hn,h=>by
  have:=zpx ns n (by simpa using hn) h;show (ns.getD n .zero).group∈grp (a::ns);rw[grp];split
  ·exact zvq _ this
  ·exact this
theorem zfz:∀(bs:List zah) (k:Nat),k<bs.length->∀x∈grp (bs.getD k .zero).nodes,x∈zba bs
 |b::bs,0,_,x,h=>zvo.2 (.inl h)
 |b::bs,k+1,hk,x,h=>zvo.2 (.inr (zfz bs k (by simpa using hk) x h))
theorem zhr{G:Int}{bs:List zah}(h:zbP G bs=true):∀x∈zba bs,1<=x/\x<=G:=by
 unfold zbP at h;simp only[zuK,zvX] at h;obtain⟨⟨⟨⟨⟨⟨_,h2⟩,_⟩,_⟩,h5⟩,h6⟩,_⟩:=h;have:=zgQ G h2.1 (zba bs);rw[h5,h6] at this;exact((zfI G (zba bs) []).1 this).1
theorem zqf(ns:List zaq)(ha:∀i,i<ns.length->zaE (zat ns i)<=(stk ns i).length)(hb:ns.all zaB=true):∀n,n<ns.length->PlcC ns n:=by
 intro n
 induction n using Nat.strongRecOn with
 |ind n ih=>
  intro hn;have hnode:zaB (ns.getD n .zero)=true:=zuP.1 hb (ns.getD n .zero) (by
   rw[zu3,zva hn];exact zvg _)
  have har:=ha n hn;have hkd:zat ns n=(ns.getD n .zero).kind:=rfl
  by_cases h1:zat ns n=1
  ·refine zsa ns n hn h1 ?_;unfold tOf zbO;rw[zv3 (by rw[<-hkd];exact h1)]
  by_cases h2:zat ns n=2
  ·obtain⟨x,y,hL,hR,hx,hy,hT⟩:=zdE (ns:=ns) (k:=n) (by rw[h2];rfl) (by rw[h2] at har;exact har);refine zr9 ns n x y hn h2 ?_ hL hR (zgG ns ha hb x (by omega)) (zgG ns ha hb y (by omega)) (ih x hx (by omega)) (ih y hy (by omega));rw[hT];unfold zbO;rw[zv2 (by rw[<-hkd];exact h1),zv3 (by rw[<-hkd];exact h2)]
   rfl
  by_cases h3:zat ns n=3
  ·obtain⟨x,y,hL,hR,hx,hy,hT⟩:=zdE (ns:=ns) (k:=n) (by rw[h3];rfl) (by rw[h3] at har;exact har);refine zr6 ns n x y hn h3 ?_ hL hR (zgG ns ha hb x (by omega)) (ih x hx (by omega)) (ih y hy (by omega));rw[hT];unfold zbO;rw[zv2 (by rw[<-hkd];exact h1),zv2 (by rw[<-hkd];exact h2),zv3 (by rw[<-hkd];exact h3)]
   rfl
  by_cases h4:zat ns n=4
  ·obtain⟨x,hL,hx,hT⟩:=zdD (ns:=ns) (k:=n) (by rw[h4];rfl) (by rw[h4] at har;exact har);have hbd:zaM (ns.getD n .zero).min (ns.getD n .zero).max=true:=by
    unfold zaB at hnode;rw[zv2 (by rw[<-hkd];exact h1),zv2 (by rw[<-hkd];exact fun h=>h.elim h2 h3),zv3 (by rw[<-hkd];exact h4)] at hnode;simp only[zuK] at hnode;exact hnode.1.2
   simp[zaM] at hbd;refine zr8 ns n x (ns.getD n .zero).min.toNat hn h4 ?_ hL (zgG ns ha hb x (by omega)) (ih x hx (by omega)) (by simp only[zu3];omega) (by simp only[zu3];omega) (by simp only[zu3];omega);rw[hT];unfold zbO;rw[zv2 (by rw[<-hkd];exact h1),zv2 (by rw[<-hkd];exact h2),zv2 (by rw[<-hkd];exact h3),zv3 (by rw[<-hkd];exact h4)];have:(((ns.getD n .zero).min.toNat:Nat):Int)=(ns.getD n .zero).min:=by simp only[zu3];omega
   rw[this]
   rfl
  have h5:zat ns n=5:=by
   by_cases h5:zat ns n=5
   ·exact h5
   ·exfalso
    unfold zaB at hnode;rw[zv2 (by rw[<-hkd];exact h1),zv2 (by rw[<-hkd];exact fun h=>h.elim h2 h3),zv2 (by rw[<-hkd];exact h4),zv2 (by rw[<-hkd];exact h5)] at hnode;cases hnode
  obtain⟨x,hL,hx,hT⟩:=zdD (ns:=ns) (k:=n) (by rw[h5];rfl) (by rw[h5] at har;exact har);refine zr7 ns n x hn h5 ?_ hL (ih x hx (by omega));rw[hT];unfold zbO;rw[zv2 (by rw[<-hkd];exact h1),zv2 (by rw[<-hkd];exact h2),zv2 (by rw[<-hkd];exact h3),zv2 (by rw[<-hkd];exact h4)]
  rfl
theorem zmo(ns:List zaq)(ha:∀i,i<ns.length->zaE (zat ns i)<=(stk ns i).length)(hb:ns.all zaB=true):∀n,n<ns.length->OkP (tOf ns n)/\∀x,gmem (tOf ns n) x->x∈grp ns:=by
 intro n
 induction n using Nat.strongRecOn with
 |ind n ih=>
  intro hn;have hnode:zaB (ns.getD n .zero)=true:=zuP.1 hb (ns.getD n .zero) (by
   rw[zu3,zva hn];exact zvg _)
  have har:=ha n hn;have hkd:zat ns n=(ns.getD n .zero).kind:=rfl
  by_cases h1:zat ns n=1
  ·unfold tOf zbO;rw[zv3 (by rw[<-hkd];exact h1)];exact⟨trivial,fun x h=>h.elim⟩
  by_cases h2:zat ns n=2
  ·obtain⟨x,y,hL,hR,hx,hy,hT⟩:=zdE (ns:=ns) (k:=n) (by rw[h2];rfl) (by rw[h2] at har;exact har);have i1:=ih x hx (by omega);have i2:=ih y hy (by omega);rw[hT];unfold zbO;rw[zv2 (by rw[<-hkd];exact h1),zv3 (by rw[<-hkd];exact h2)];exact⟨⟨i1.1,i2.1⟩,fun z h=>h.elim (i1.2 z) (i2.2 z)⟩
  by_cases h3:zat ns n=3
  ·obtain⟨x,y,hL,hR,hx,hy,hT⟩:=zdE (ns:=ns) (k:=n) (by rw[h3];rfl) (by rw[h3] at har;exact har);have i1:=ih x hx (by omega);have i2:=ih y hy (by omega);rw[hT];unfold zbO;rw[zv2 (by rw[<-hkd];exact h1),zv2 (by rw[<-hkd];exact h2),zv3 (by rw[<-hkd];exact h3)];exact⟨⟨i1.1,i2.1⟩,fun z h=>h.elim (i1.2 z) (i2.2 z)⟩
  by_cases h4:zat ns n=4
  ·obtain⟨x,hL,hx,hT⟩:=zdD (ns:=ns) (k:=n) (by rw[h4];rfl) (by rw[h4] at har;exact har);have hbd:zaM (ns.getD n .zero).min (ns.getD n .zero).max=true:=by
    unfold zaB at hnode;rw[zv2 (by rw[<-hkd];exact h1),zv2 (by rw[<-hkd];exact fun h=>h.elim h2 h3),zv3 (by rw[<-hkd];exact h4)] at hnode;simp only[zuK] at hnode;exact hnode.1.2
   simp[zaM] at hbd;have i1:=ih x hx (by omega);rw[hT];unfold zbO;rw[zv2 (by rw[<-hkd];exact h1),zv2 (by rw[<-hkd];exact h2),zv2 (by rw[<-hkd];exact h3),zv3 (by rw[<-hkd];exact h4)];refine⟨⟨i1.1,?_,?_⟩,fun z h=>i1.2 z h⟩<;>(simp only[zu3];omega)
  have h5:zat ns n=5:=by
   by_cases h5:zat ns n=5
   ·exact h5
   ·exfalso
    unfold zaB at hnode;rw[zv2 (by rw[<-hkd];exact h1),zv2 (by rw[<-hkd];exact fun h=>h.elim h2 h3),zv2 (by rw[<-hkd];exact h4),zv2 (by rw[<-hkd];exact h5)] at hnode;cases hnode
  obtain⟨x,hL,hx,hT⟩:=zdD (ns:=ns) (k:=n) (by rw[h5];rfl) (by rw[h5] at har;exact har);have i1:=ih x hx (by omega);rw[hT];unfold zbO;rw[zv2 (by rw[<-hkd];exact h1),zv2 (by rw[<-hkd];exact h2),zv2 (by rw[<-hkd];exact h3),zv2 (by rw[<-hkd];exact h4)];refine⟨i1.1,fun z h=>?_⟩;rcases h with rfl|h
  ·exact zpx ns n hn (by rw[<-hkd];exact h5)
  ·exact i1.2 z h
end
attribute [local go_sem ↓] Go.wp_at_zero Go.wp_at_succ
theorem zaK(W:World)(b j:Nat)(v:Value):W.grownBy (W.setCell ⟨b,j,none⟩ v) (some b):=
 ⟨rfl,rfl,rfl,by simp,fun k _ hk=>Below.heap_setCell W _ _ k (fun e=>hk (by rw[e]))⟩
theorem zhK(W:World)(b j:Nat)(v:Value):W.grownBy (W.setCell ⟨b,j,none⟩ v).drew (some b):=by
 have h:=zaK W b j v;exact⟨h.os,h.tape,h.output,h.size,h.block⟩
def zcS(n:Nat)(T:Nat->Nat):Array Value:=((List.range n).map fun i=>Value.int .u64 (T i:Int)).toArray
theorem zfn(n:Nat)(T:Nat->Nat){i:Nat}(h:i<n):(zcS n T)[i]?=some (.int .u64 (T i:Int)):=by
 simp[zcS,h]
def zai(T:Nat->Nat)(s:Nat):Bool:=(T (s/64)).testBit (s%64)
theorem zsN(x y:Nat)(hx:x<18446744073709551616)(hy:y<18446744073709551616):bits BinOp.or IntKind.u64 (x:Int) (y:Int)=((x ||| y:Nat):Int):=by
 have h1:(BitVec.ofInt 64 (x:Int) ||| BitVec.ofInt 64 (y:Int)).toNat=x ||| y:=by
  rw[BitVec.ofInt_natCast,BitVec.ofInt_natCast,BitVec.toNat_or,BitVec.toNat_ofNat,BitVec.toNat_ofNat,zvP (by omega),zvP (by omega)]
 have h2:x ||| y<18446744073709551616:=Nat.or_lt_two_pow (n:=64) hx hy
 show IntKind.u64.wrap ((BitVec.ofInt 64 (x:Int) ||| BitVec.ofInt 64 (y:Int)).toNat:Int)=_;rw[h1];simp[IntKind.wrap,IntKind.bits,IntKind.signed];omega
theorem zjF(x:Nat):IntKind.u64.wrap (x:Int)=((x%18446744073709551616:Nat):Int):=by
 simp[IntKind.wrap,IntKind.bits,IntKind.signed]
theorem zkW(n:Nat)(T:Nat->Nat)(i x:Nat):(zcS n T).setIfInBounds i (.int .u64 (x:Int))=zcS n (fun j=>if j=i then x else T j):=by
 apply Array.ext'
 unfold zcS;simp only[zvz];apply List.ext_getElem
 ·simp
 ·intro j h1 h2;simp only[List.getElem_set,List.getElem_map,List.getElem_range]
  by_cases e:i=j
  ·subst e;simp
  ·rw[zv2 e,zv2 (fun h=>e h.symm)]
def addT(T:Nat->Nat)(p:Nat):Nat->Nat:=fun j=>if j=p/64 then T (p/64) ||| 2 ^ (p%64) else T j
theorem zfw(T:Nat->Nat)(hT:∀i,T i<18446744073709551616)(p:Nat):∀i,addT T p i<18446744073709551616:=fun i=>by
 unfold addT;split
 ·exact Nat.or_lt_two_pow (n:=64) (hT _) (Nat.pow_lt_pow_right (by omega) (by omega))
 ·exact hT i
theorem zel(T:Nat->Nat)(p s:Nat):zai (addT T p) s=(zai T s || decide (s=p)):=by
 unfold zai addT
 by_cases h:s/64=p/64
 ·rw[zv3 h,Nat.testBit_or,Nat.testBit_two_pow,h]
  congr 1
  by_cases e:s=p
  ·subst e;simp
  ·have:¬p%64=s%64:=by omega
   simp[this,e]
 ·rw[zv2 h];have:¬s=p:=fun e=>h (by rw[e])
  simp[this]
theorem zjg:∀(n x:Nat),x<=n->0<x->∃k t,x=2 ^ k*(2*t+1)
 |0,x,h,h0=>by omega
 |n+1,x,h,h0=>by
  by_cases e:x%2=1
  ·exact⟨0,x/2,by omega⟩
  ·obtain⟨k,t,hk⟩:=zjg n (x/2) (by omega) (by omega);refine⟨k+1,t,?_⟩;rw[Nat.pow_succ,Nat.mul_assoc,Nat.mul_comm 2,<-Nat.mul_assoc,<-hk];omega
structure Low(x k:Nat):Prop where
 bit:x.testBit k=true
 low:∀j,j<k->x.testBit j=false
theorem zkf(k t:Nat):Low (2 ^ k*(2*t+1)) k:=by
 constructor
 ·rw[Nat.testBit_two_pow_mul];simp
 ·intro j hj;rw[Nat.testBit_two_pow_mul];simp;omega
theorem zts{x k t:Nat}(hx:x=2 ^ k*(2*t+1))(hl:x<2 ^ 64):x &&& (2 ^ 64-x)=2 ^ k:=by
 have hp:0<2 ^ k:=Nat.two_pow_pos k;have h0:0<x:=by rw[hx];exact Nat.mul_pos hp (by omega)
 have e1:2 ^ 64-x=2 ^ 64-((x-1)+1):=by omega
 have e2:x-1=2 ^ k*(2*t)+(2 ^ k-1):=by
  rw[hx,Nat.mul_add,Nat.mul_one];omega
 apply Nat.eq_of_testBit_eq
 intro i;rw[Nat.testBit_and,e1,Nat.testBit_two_pow_sub_succ (by omega),e2,Nat.testBit_two_pow_mul_add _ (by omega),hx,Nat.testBit_two_pow_mul,Nat.testBit_two_pow];have hk:k<64:=by
  rcases zvM k 64 with h|h
  ·exact h
  ·have:2 ^ 64<=2 ^ k:=Nat.pow_le_pow_right (by omega) h;have:2 ^ k<=x:=by rw[hx];exact Nat.le_mul_of_pos_right _ (by omega)
   omega
 by_cases h1:i<k
 ·have:¬k<=i:=by omega
  have h2:¬k=i:=by omega
  simp[this,h2]
 ·by_cases h2:i=k
  ·subst h2;simp[hk]
  ·have h3:k<=i:=by omega
   have h4:¬k=i:=by omega
   have h5:¬i-k=0:=by omega
   obtain⟨m,hm⟩:∃m,i-k=m+1:=⟨i-k-1,by omega⟩;have a1:(2*t+1).testBit (m+1)=t.testBit m:=by rw[Nat.testBit_succ];congr 1;omega
   have a2:(2*t).testBit (m+1)=t.testBit m:=by rw[Nat.testBit_succ];congr 1;omega
   rw[zv2 h1,hm,a1,a2];cases t.testBit m<;>simp[h4]
def zkQ:List Nat:=[0,1,56,2,57,49,28,3,61,58,42,50,38,29,17,4,62,47,59,36,45,43,51,22,53,39,33,30,24,18,12,5,63,55,48,27,60,41,37,16,46,35,44,21,52,32,23,11,54,26,40,15,34,20,31,10,25,14,19,9,13,8,7,6]
theorem ztY:∀k,k<64->(2 ^ k*285870213051353865%18446744073709551616)/2 ^ 58<64/\zkQ.getD ((2 ^ k*285870213051353865%18446744073709551616)/2 ^ 58) 0=k:=by decide
def za7(w:World):Prop:=∀i,i<64->w.cell? ⟨0,i,none⟩=some (.int .u8 (zkQ.getD i 0:Int))
theorem ziP(x y:Nat)(hx:x<18446744073709551616)(hy:y<18446744073709551616):bits BinOp.and IntKind.u64 (x:Int) (y:Int)=((x &&& y:Nat):Int):=by
 have h1:(BitVec.ofInt 64 (x:Int) &&& BitVec.ofInt 64 (y:Int)).toNat=x &&& y:=by
  rw[BitVec.ofInt_natCast,BitVec.ofInt_natCast,BitVec.toNat_and,BitVec.toNat_ofNat,BitVec.toNat_ofNat,zvP (by omega),zvP (by omega)]
 have h2:x &&& y<=x:=Nat.and_le_left;show IntKind.u64.wrap ((BitVec.ofInt 64 (x:Int) &&& BitVec.ofInt 64 (y:Int)).toNat:Int)=_;rw[h1];simp[IntKind.wrap,IntKind.bits,IntKind.signed];omega
theorem zuv(x k t:Nat)(w:World)(hx:Hid (x=2 ^ k*(2*t+1)))(hl:x<18446744073709551616)(h0:0<x)(hk:k<64)(hB:Hid (za7 w)):
  Calls Tryz.prog 148 #[.int .u64 x] w fun e w'=>e=.returned (.int .i64 k)/\w'=w:=by
 have b0:((x:Int)==0)=false:=by simp;omega
 have hn:IntKind.u64.wrap (-(x:Int))=((18446744073709551616-x:Nat):Int):=by
  simp[IntKind.wrap,IntKind.bits,IntKind.signed];omega
 have ha:bits BinOp.and IntKind.u64 (x:Int) (IntKind.u64.wrap (-(x:Int)))=((2 ^ k:Nat):Int):=by
  rw[hn,ziP _ _ hl (by omega)];have h:=zts hx.out (show x<2 ^ 64 by omega);rw[show (2:Nat) ^ 64=18446744073709551616 by decide] at h;rw[h]
 obtain⟨hi,ht⟩:=ztY k hk;have hE:IntKind.u64.wrap (bits BinOp.and IntKind.u64 (x:Int) (IntKind.u64.wrap (-(x:Int)))*285870213051353865)/288230376151711744=(((2 ^ k*285870213051353865%18446744073709551616)/2 ^ 58:Nat):Int):=by
  rw[ha,show ((2 ^ k:Nat):Int)*285870213051353865=((2 ^ k*285870213051353865:Nat):Int) by simp,zjF];generalize 2 ^ k*285870213051353865%18446744073709551616=y;omega
 have c0:w.cell? ⟨0,(IntKind.u64.wrap (bits BinOp.and IntKind.u64 (x:Int) (IntKind.u64.wrap (-(x:Int)))*285870213051353865)/288230376151711744).toNat,none⟩=some (.int .u8 (k:Int)):=by rw[hE,zuO,hB.out _ hi,ht]
 have q0:0<=IntKind.u64.wrap (bits BinOp.and IntKind.u64 (x:Int) (IntKind.u64.wrap (-(x:Int)))*285870213051353865)/288230376151711744:=by rw[hE];omega
 have q1:IntKind.u64.wrap (bits BinOp.and IntKind.u64 (x:Int) (IntKind.u64.wrap (-(x:Int)))*285870213051353865)/288230376151711744<64:=by rw[hE];omega
 clear hn ha ht hx hl h0 hB hi hE
 go_enter Tryz.func148,Tryz.ntmps148
 go_wp2;go_ret;exact⟨rfl,rfl⟩
theorem zeG(nw g cap:Nat)(T:Nat->Nat)(p:Nat)(w:World)(hg:w.heap[g]?=some (.cells (zcS nw T) 236 (0,0)))(hp:p<64*nw)(hnw:nw<=1000)(hT:Hid (∀i,T i<18446744073709551616)):
  Calls Tryz.prog 146 #[.slice (some ⟨g,0,none⟩) nw cap,.int .i64 p] w fun e w'=>e=.returned (.tuple #[])/\w'.heap[g]?=some (.cells (zcS nw (addT T p)) 236 (0,0))/\w.grownBy w' (some g):=by
 have d0:w.cell? ⟨g,p/64,none⟩=some (.int .u64 (T (p/64):Int)):=by rw[zvW _ _ _ _ _ _ hg,zfn _ _ (by omega)]
 have f0:=zvY _ _ (p/64) _ _ hg;have t0:=hT.out (p/64);have e1:(p:Int)/64=((p/64:Nat):Int):=by omega
 have e2:(p:Int)%64=((p%64:Nat):Int):=by omega
 have l1:p/64<nw:=by omega
 have l2:p%64<64:=by omega
 have HN:Hid (((w.setCell ⟨g,p/64,none⟩ (.int .u64 ((T (p/64) ||| 2 ^ (p%64):Nat):Int))).heap[g]?=some (.cells (zcS nw (addT T p)) 236 (0,0)))):=by
  have:=zv1 w g (p/64) _ _ (.int .u64 ((T (p/64) ||| 2 ^ (p%64):Nat):Int)) hg;rw[zkW] at this;exact this
 generalize addT T p=T' at *;generalize T (p/64)=a at *;generalize hq:p/64=q at *;generalize hr:p%64=r at *;have i1:(q:Int)<nw:=by omega
 have i3:(0:Int)<=(q:Int):=by omega
 have hv:bits BinOp.or IntKind.u64 (a:Int) (IntKind.u64.wrap (2 ^ r))=((a ||| 2 ^ r:Nat):Int):=by
  have h2:2 ^ r<18446744073709551616:=Nat.pow_lt_pow_right (a:=2) (n:=64) (by omega) l2;rw[show (2:Int) ^ r=((2 ^ r:Nat):Int) by simp,zjF,zvP h2,zsN _ _ t0 h2]
 rw[<-hv] at HN;clear hv hq hr hg hT t0
 go_enter Tryz.func146,Tryz.ntmps146
 go_wp2
 go_region
 all_goals
  go_wp2
  go_end0
  exact⟨rfl,HN.out,zhK _ _ _ _⟩
end Go.Proofs.YtdimhpfiieepiaaGreatDoor
