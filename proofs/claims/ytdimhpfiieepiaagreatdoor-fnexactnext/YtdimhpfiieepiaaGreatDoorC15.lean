import Derived.Test.YtdimhpfiieepiaaGreatDoorC11
import Derived.Test.YtdimhpfiieepiaaGreatDoorC14
import Derived.Deep.RegionHeld3
namespace Go.Proofs.YtdimhpfiieepiaaGreatDoor
set_option maxHeartbeats 4000000
set_option maxRecDepth 100000
section
variable{w W W':World}{a0 a1 a2 a3 lv rv:Value}{gl gr n:Nat}
open Go.RowKit
attribute [local go_sem ↓] Go.wp_at_zero Go.wp_at_succ
def EndH(w:World)(a0 a1 a2 a3:Value)(n0 n1 n2 n3 n4:Value)(gl gr n:Nat)(lv rv:Value)(W:World):Prop:=
 Below w.heap.size w W/\w.heap.size+1<W.heap.size/\W.cell? ⟨w.heap.size,0,none⟩=some a0/\W.cell? ⟨w.heap.size,1,none⟩=some a1/\W.cell? ⟨w.heap.size,2,none⟩=some a2/\W.cell? ⟨w.heap.size,3,none⟩=some a3/\
  W.cell? ⟨w.heap.size+1,0,none⟩=some n0/\W.cell? ⟨w.heap.size+1,1,none⟩=some n1/\W.cell? ⟨w.heap.size+1,2,none⟩=some n2/\W.cell? ⟨w.heap.size+1,3,none⟩=some n3/\W.cell? ⟨w.heap.size+1,4,none⟩=some n4/\
  W.cell? ⟨gl,n,none⟩=some lv/\W.cell? ⟨gr,n,none⟩=some rv/\gl<w.heap.size/\gr<w.heap.size
theorem EndH.call{n0 n1 n2 n3 n4:Value}(h:EndH w a0 a1 a2 a3 n0 n1 n2 n3 n4 gl gr n lv rv W)(hb:Below W.heap.size W W'):EndH w a0 a1 a2 a3 n0 n1 n2 n3 n4 gl gr n lv rv W':=by
 obtain⟨h1,h2,c0,c1,c2,c3,d0,d1,d2,d3,d4,l,r,lt,rt⟩:=h;have hc:∀b o,b<W.heap.size->W'.cell? ⟨b,o,none⟩=W.cell? ⟨b,o,none⟩:=fun b o hl=>hb.cell (p:=⟨b,o,none⟩) hl
 have hz:=h1.size;exact⟨zaa h1 h1.size hb,zvL h2 hb.size,(hc _ _ (by omega)).trans c0,(hc _ _ (by omega)).trans c1,(hc _ _ (by omega)).trans c2,(hc _ _ (by omega)).trans c3,(hc _ _ (by omega)).trans d0,(hc _ _ (by omega)).trans d1,(hc _ _ (by omega)).trans d2,(hc _ _ (by omega)).trans d3,(hc _ _ (by omega)).trans d4,(hc _ _ (by omega)).trans l,(hc _ _ (by omega)).trans r,lt,rt⟩
theorem zc0(lt:gl<w.heap.size)(rt:gr<w.heap.size)
  (h:Below w.heap.size w W/\w.heap.size+1<W.heap.size/\W.cell? ⟨w.heap.size,0,none⟩=some a0/\W.cell? ⟨w.heap.size,1,none⟩=some a1/\W.cell? ⟨w.heap.size,2,none⟩=some a2/\W.cell? ⟨w.heap.size,3,none⟩=some a3/\W.cell? ⟨gl,n,none⟩=some lv/\W.cell? ⟨gr,n,none⟩=some rv) (hb:Below W.heap.size W W'):
  Below w.heap.size w W'/\w.heap.size+1<W'.heap.size/\W'.cell? ⟨w.heap.size,0,none⟩=some a0/\W'.cell? ⟨w.heap.size,1,none⟩=some a1/\W'.cell? ⟨w.heap.size,2,none⟩=some a2/\W'.cell? ⟨w.heap.size,3,none⟩=some a3/\W'.cell? ⟨gl,n,none⟩=some lv/\W'.cell? ⟨gr,n,none⟩=some rv:=by
 obtain⟨h1,h2,c0,c1,c2,c3,l,r⟩:=h;have hc:∀b o,b<W.heap.size->W'.cell? ⟨b,o,none⟩=W.cell? ⟨b,o,none⟩:=fun b o hl=>hb.cell (p:=⟨b,o,none⟩) hl
 have hz:=h1.size;exact⟨zaa h1 h1.size hb,zvL h2 hb.size,(hc _ _ (by omega)).trans c0,(hc _ _ (by omega)).trans c1,(hc _ _ (by omega)).trans c2,(hc _ _ (by omega)).trans c3,(hc _ _ (by omega)).trans l,(hc _ _ (by omega)).trans r⟩
theorem zpa(ns:List zaq)(n x:Nat)(hn:n<ns.length)(hk:zat ns n=5)(hT:tOf ns n=.grp (tOf ns x) (ns.getD n .zero).group)(hL:zbL ns n=x)(hX:zcl ns x):zcl ns n:=by
 intro w ao c gl cl gr cr t g cap m S F hbr hS hSm hF ht;rw[hT];obtain⟨ao2,cap2,hv,hml,hc⟩:=hbr.nodes;cases hv;obtain⟨b,o,sv,nd,rfl,Hn,hbl,c0,c1,c2,c3,c4,hsv⟩:=hc.elem (Below.refl _ _) hn;have hk1:nd.kind=5:=by rw[<-hk];unfold zat;rw[Hn.out]
 rw[hk1] at c0;obtain⟨sao,scp,rfl,hsm,hsc⟩:=hsv;have hX':=fun(W:World) (hb:Below w.heap.size w W)=>hX W (some ⟨b,o,none⟩) c gl cl gr cr t g cap m S F (hbr.below hb) (hS.below hb) hSm hF ht
 have l0:=hbr.left n hn;rw[hL] at l0;have r0:=hbr.right n hn;obtain⟨ri,hri⟩:∃ri,zbD ns n=ri:=⟨_,rfl⟩;rw[hri] at r0;have hlt:=hbr.ltl;have hrt:=hbr.ltr;clear hk hT hk1 hc hsc hbr hX hF hri;have hi0:(0:Int)<=(n:Int):=by omega
 have hi1:(n:Int)<(ns.length:Int):=by omega
 have H0:EndH w (.slice (some ⟨b,o,none⟩) ns.length c) (.slice (some ⟨gl,0,none⟩) ns.length cl) (.slice (some ⟨gr,0,none⟩) ns.length cr) (.string t) (.int .i64 5) (.slice sao nd.set.length scp) (.int .i64 nd.min) (.int .i64 nd.max) (.int .i64 nd.group) gl gr n (.int .i64 x) (.int .i64 ri) ((w.alloc (.cells #[.slice (some ⟨b,o,none⟩) ns.length c,.slice (some ⟨gl,0,none⟩) ns.length cl,.slice (some ⟨gr,0,none⟩) ns.length cr,.string t] 119)).alloc (.cells #[.int .i64 5,.slice sao nd.set.length scp,.int .i64 nd.min,.int .i64 nd.max,.int .i64 nd.group] 149)).drew:=by
  have k0:(w.alloc (.cells #[.slice (some ⟨b,o,none⟩) ns.length c,.slice (some ⟨gl,0,none⟩) ns.length cl,.slice (some ⟨gr,0,none⟩) ns.length cr,.string t] 119)).heap[w.heap.size]?=_:=zvZ _ _;have k1:((w.alloc (.cells #[.slice (some ⟨b,o,none⟩) ns.length c,.slice (some ⟨gl,0,none⟩) ns.length cl,.slice (some ⟨gr,0,none⟩) ns.length cr,.string t] 119)).alloc (.cells #[.int .i64 5,.slice sao nd.set.length scp,.int .i64 nd.min,.int .i64 nd.max,.int .i64 nd.group] 149)).heap[w.heap.size]?=_:=zak k0;have k2:((w.alloc (.cells #[.slice (some ⟨b,o,none⟩) ns.length c,.slice (some ⟨gl,0,none⟩) ns.length cl,.slice (some ⟨gr,0,none⟩) ns.length cr,.string t] 119)).alloc (.cells #[.int .i64 5,.slice sao nd.set.length scp,.int .i64 nd.min,.int .i64 nd.max,.int .i64 nd.group] 149)).heap[w.heap.size+1]?=some (.cells #[.int .i64 5,.slice sao nd.set.length scp,.int .i64 nd.min,.int .i64 nd.max,.int .i64 nd.group] 149 (0,0)):=by have:=zvZ (w.alloc (.cells #[.slice (some ⟨b,o,none⟩) ns.length c,.slice (some ⟨gl,0,none⟩) ns.length cl,.slice (some ⟨gr,0,none⟩) ns.length cr,.string t] 119)) (.cells #[.int .i64 5,.slice sao nd.set.length scp,.int .i64 nd.min,.int .i64 nd.max,.int .i64 nd.group] 149);simpa using this
  obtain⟨p0,p1,p2,p3⟩:=zaH k1;obtain⟨q0,q1,q2,q3,q4⟩:=zbV k2;have hb:Below w.heap.size w ((w.alloc (.cells #[.slice (some ⟨b,o,none⟩) ns.length c,.slice (some ⟨gl,0,none⟩) ns.length cl,.slice (some ⟨gr,0,none⟩) ns.length cr,.string t] 119)).alloc (.cells #[.int .i64 5,.slice sao nd.set.length scp,.int .i64 nd.min,.int .i64 nd.max,.int .i64 nd.group] 149)):=((Below.refl _ _).alloc (zvJ _) _).alloc (by simp) _;exact⟨hb.drew,by simp,p0,p1,p2,p3,q0,q1,q2,q3,q4,(hb.cell (p:=⟨gl,n,none⟩) hlt).trans l0,(hb.cell (p:=⟨gr,n,none⟩) hrt).trans r0,hlt,hrt⟩
 have HB0:=H0.1
 go_enter Tryz.func90,Tryz.ntmps90
 go_wp2
 go_region_held3 (fun w'=>Below w.heap.size w w'/\w.heap.size+1<w'.heap.size/\w'.cell? ⟨w.heap.size,0,none⟩=some (.slice (some ⟨b,o,none⟩) ns.length c)/\w'.cell? ⟨w.heap.size,1,none⟩=some (.slice (some ⟨gl,0,none⟩) ns.length cl)/\w'.cell? ⟨w.heap.size,2,none⟩=some (.slice (some ⟨gr,0,none⟩) ns.length cr)/\w'.cell? ⟨w.heap.size,3,none⟩=some (.string t)/\w'.cell? ⟨w.heap.size+1,0,none⟩=some (.int .i64 5)/\w'.cell? ⟨w.heap.size+1,1,none⟩=some (.slice sao nd.set.length scp)/\w'.cell? ⟨w.heap.size+1,2,none⟩=some (.int .i64 nd.min)/\w'.cell? ⟨w.heap.size+1,3,none⟩=some (.int .i64 nd.max)/\w'.cell? ⟨w.heap.size+1,4,none⟩=some (.int .i64 nd.group)/\w'.cell? ⟨gl,n,none⟩=some (.int .i64 x)/\w'.cell? ⟨gr,n,none⟩=some (.int .i64 ri)/\gl<w.heap.size/\gr<w.heap.size) ((first|exact EndH.call (show EndH w (.slice (some ⟨b,o,none⟩) ns.length c) (.slice (some ⟨gl,0,none⟩) ns.length cl) (.slice (some ⟨gr,0,none⟩) ns.length cr) (.string t) (.int .i64 5) (.slice sao nd.set.length scp) (.int .i64 nd.min) (.int .i64 nd.max) (.int .i64 nd.group) gl gr n (.int .i64 x) (.int .i64 ri) _ from by assumption) hb2|go_keep)) ((go_at_call 90;refine(hX' _ (by first|exact H0.1|exact(‹Below w.heap.size w _/\_›).1)).mono ?_;rintro e w2 ⟨g2,c2,S2,rfl,hB2,hl2,hs2,hb2⟩))
 all_goals
  have hfin:=‹Below w.heap.size w _/\_›;go_wp2;refine zvV (v:=.slice (some ⟨g2,0,none⟩) m c2) (by simp[results,Tryz.results90,go_sem]) rfl ⟨g2,c2,S2,rfl,hB2,hl2,hs2,hfin.1⟩
theorem zpb(ns:List zaq)(n x mn:Nat)(hn:n<ns.length)(hk:zat ns n=4)(hT:tOf ns n=.rep (tOf ns x) mn (ns.getD n .zero).max)(hL:zbL ns n=x)(hX:zcl ns x)(hm1:(ns.getD n .zero).min=mn)(hm2:mn<=255)(hm3:(ns.getD n .zero).max=-1\/((mn:Int)<=(ns.getD n .zero).max/\(ns.getD n .zero).max<=255)):zcl ns n:=by
 intro w ao c gl cl gr cr t g cap m S F hbr hS hSm hF ht;rw[hT];obtain⟨ao2,cap2,hv,hml,hc⟩:=hbr.nodes;cases hv;obtain⟨b,o,sv,nd,rfl,Hn,hbl,c0,c1,c2,c3,c4,hsv⟩:=hc.elem (Below.refl _ _) hn;have hk1:nd.kind=4:=by rw[<-hk];unfold zat;rw[Hn.out]
 rw[hk1] at c0;obtain⟨sao,scp,rfl,hsm,hsc⟩:=hsv;rw[Hn.out] at hm1 hm3 ⊢;rw[hm1] at c2;have hX':=fun(W:World) (hb:Below w.heap.size w W)=>zjQ ns x hX W (some ⟨b,o,none⟩) c gl cl gr cr t g cap m S F mn nd.max (hbr.below hb) (hS.below hb) hSm hF ht hm2 hm3
 have l0:=hbr.left n hn;rw[hL] at l0;have r0:=hbr.right n hn;obtain⟨ri,hri⟩:∃ri,zbD ns n=ri:=⟨_,rfl⟩;rw[hri] at r0;have hlt:=hbr.ltl;have hrt:=hbr.ltr;clear hk hT hk1 hc hsc hbr hX hF hri hm1 hm2 hm3;have hi0:(0:Int)<=(n:Int):=by omega
 have hi1:(n:Int)<(ns.length:Int):=by omega
 have H0:EndH w (.slice (some ⟨b,o,none⟩) ns.length c) (.slice (some ⟨gl,0,none⟩) ns.length cl) (.slice (some ⟨gr,0,none⟩) ns.length cr) (.string t) (.int .i64 4) (.slice sao nd.set.length scp) (.int .i64 (mn:Nat)) (.int .i64 nd.max) (.int .i64 nd.group) gl gr n (.int .i64 x) (.int .i64 ri) ((w.alloc (.cells #[.slice (some ⟨b,o,none⟩) ns.length c,.slice (some ⟨gl,0,none⟩) ns.length cl,.slice (some ⟨gr,0,none⟩) ns.length cr,.string t] 119)).alloc (.cells #[.int .i64 4,.slice sao nd.set.length scp,.int .i64 (mn:Nat),.int .i64 nd.max,.int .i64 nd.group] 149)).drew:=by
  have k0:(w.alloc (.cells #[.slice (some ⟨b,o,none⟩) ns.length c,.slice (some ⟨gl,0,none⟩) ns.length cl,.slice (some ⟨gr,0,none⟩) ns.length cr,.string t] 119)).heap[w.heap.size]?=_:=zvZ _ _;have k1:((w.alloc (.cells #[.slice (some ⟨b,o,none⟩) ns.length c,.slice (some ⟨gl,0,none⟩) ns.length cl,.slice (some ⟨gr,0,none⟩) ns.length cr,.string t] 119)).alloc (.cells #[.int .i64 4,.slice sao nd.set.length scp,.int .i64 (mn:Nat),.int .i64 nd.max,.int .i64 nd.group] 149)).heap[w.heap.size]?=_:=zak k0;have k2:((w.alloc (.cells #[.slice (some ⟨b,o,none⟩) ns.length c,.slice (some ⟨gl,0,none⟩) ns.length cl,.slice (some ⟨gr,0,none⟩) ns.length cr,.string t] 119)).alloc (.cells #[.int .i64 4,.slice sao nd.set.length scp,.int .i64 (mn:Nat),.int .i64 nd.max,.int .i64 nd.group] 149)).heap[w.heap.size+1]?=some (.cells #[.int .i64 4,.slice sao nd.set.length scp,.int .i64 (mn:Nat),.int .i64 nd.max,.int .i64 nd.group] 149 (0,0)):=by have:=zvZ (w.alloc (.cells #[.slice (some ⟨b,o,none⟩) ns.length c,.slice (some ⟨gl,0,none⟩) ns.length cl,.slice (some ⟨gr,0,none⟩) ns.length cr,.string t] 119)) (.cells #[.int .i64 4,.slice sao nd.set.length scp,.int .i64 (mn:Nat),.int .i64 nd.max,.int .i64 nd.group] 149);simpa using this
  obtain⟨p0,p1,p2,p3⟩:=zaH k1;obtain⟨q0,q1,q2,q3,q4⟩:=zbV k2;have hb:Below w.heap.size w ((w.alloc (.cells #[.slice (some ⟨b,o,none⟩) ns.length c,.slice (some ⟨gl,0,none⟩) ns.length cl,.slice (some ⟨gr,0,none⟩) ns.length cr,.string t] 119)).alloc (.cells #[.int .i64 4,.slice sao nd.set.length scp,.int .i64 (mn:Nat),.int .i64 nd.max,.int .i64 nd.group] 149)):=((Below.refl _ _).alloc (zvJ _) _).alloc (by simp) _;exact⟨hb.drew,by simp,p0,p1,p2,p3,q0,q1,q2,q3,q4,(hb.cell (p:=⟨gl,n,none⟩) hlt).trans l0,(hb.cell (p:=⟨gr,n,none⟩) hrt).trans r0,hlt,hrt⟩
 have HB0:=H0.1
 go_enter Tryz.func90,Tryz.ntmps90
 go_wp2
 go_region_held3 (fun w'=>Below w.heap.size w w'/\w.heap.size+1<w'.heap.size/\w'.cell? ⟨w.heap.size,0,none⟩=some (.slice (some ⟨b,o,none⟩) ns.length c)/\w'.cell? ⟨w.heap.size,1,none⟩=some (.slice (some ⟨gl,0,none⟩) ns.length cl)/\w'.cell? ⟨w.heap.size,2,none⟩=some (.slice (some ⟨gr,0,none⟩) ns.length cr)/\w'.cell? ⟨w.heap.size,3,none⟩=some (.string t)/\w'.cell? ⟨w.heap.size+1,0,none⟩=some (.int .i64 4)/\w'.cell? ⟨w.heap.size+1,1,none⟩=some (.slice sao nd.set.length scp)/\w'.cell? ⟨w.heap.size+1,2,none⟩=some (.int .i64 (mn:Nat))/\w'.cell? ⟨w.heap.size+1,3,none⟩=some (.int .i64 nd.max)/\w'.cell? ⟨w.heap.size+1,4,none⟩=some (.int .i64 nd.group)/\w'.cell? ⟨gl,n,none⟩=some (.int .i64 x)/\w'.cell? ⟨gr,n,none⟩=some (.int .i64 ri)/\gl<w.heap.size/\gr<w.heap.size) ((first|exact EndH.call (show EndH w (.slice (some ⟨b,o,none⟩) ns.length c) (.slice (some ⟨gl,0,none⟩) ns.length cl) (.slice (some ⟨gr,0,none⟩) ns.length cr) (.string t) (.int .i64 4) (.slice sao nd.set.length scp) (.int .i64 (mn:Nat)) (.int .i64 nd.max) (.int .i64 nd.group) gl gr n (.int .i64 x) (.int .i64 ri) _ from by assumption) hb2|go_keep)) ((go_at_call 114;refine(hX' _ (by first|exact HB0|exact(‹Below w.heap.size w _/\_›).1)).mono ?_;rintro e w2 ⟨g2,c2,S2,rfl,hB2,hl2,hs2,hb2⟩))
 all_goals
  have hfin:=‹Below w.heap.size w _/\_›;go_wp2;refine zvV (v:=.slice (some ⟨g2,0,none⟩) m c2) (by simp[results,Tryz.results90,go_sem]) rfl ⟨g2,c2,S2,rfl,hB2,hl2,hs2,hfin.1⟩
theorem zpc(ns:List zaq)(n x y:Nat)(hn:n<ns.length)(hk:zat ns n=2)(hT:tOf ns n=.seq (tOf ns x) (tOf ns y))(hL:zbL ns n=x)(hR:zbD ns n=y)(hX:zcl ns x)(hY:zcl ns y):zcl ns n:=by
 intro w ao c gl cl gr cr t g cap m S F hbr hS hSm hF ht;rw[hT];obtain⟨ao2,cap2,hv,hml,hc⟩:=hbr.nodes;cases hv;obtain⟨b,o,sv,nd,rfl,Hn,hbl,c0,c1,c2,c3,c4,hsv⟩:=hc.elem (Below.refl _ _) hn;have hk1:nd.kind=2:=by rw[<-hk];unfold zat;rw[Hn.out]
 rw[hk1] at c0;obtain⟨sao,scp,rfl,hsm,hsc⟩:=hsv;have hX':=fun(W:World) (hb:Below w.heap.size w W)=>hX W (some ⟨b,o,none⟩) c gl cl gr cr t g cap m S F (hbr.below hb) (hS.below hb) hSm hF ht
 have hY':=fun(W:World) (hb:Below w.heap.size w W) (g cap:Nat) (C:List Bool) (P:Nat->Prop) (h1:zbB W g C) (h2:C.length=m) (h3:zdd t.size C P)=>hY W (some ⟨b,o,none⟩) c gl cl gr cr t g cap m C P (hbr.below hb) h1 h2 h3 ht
 have l0:=hbr.left n hn;rw[hL] at l0;have r0:=hbr.right n hn;rw[hR] at r0;have hlt:=hbr.ltl;have hrt:=hbr.ltr;clear hk hT hk1 hc hsc hbr hX hY hF;have hi0:(0:Int)<=(n:Int):=by omega
 have hi1:(n:Int)<(ns.length:Int):=by omega
 have H0:EndH w (.slice (some ⟨b,o,none⟩) ns.length c) (.slice (some ⟨gl,0,none⟩) ns.length cl) (.slice (some ⟨gr,0,none⟩) ns.length cr) (.string t) (.int .i64 2) (.slice sao nd.set.length scp) (.int .i64 nd.min) (.int .i64 nd.max) (.int .i64 nd.group) gl gr n (.int .i64 x) (.int .i64 y) ((w.alloc (.cells #[.slice (some ⟨b,o,none⟩) ns.length c,.slice (some ⟨gl,0,none⟩) ns.length cl,.slice (some ⟨gr,0,none⟩) ns.length cr,.string t] 119)).alloc (.cells #[.int .i64 2,.slice sao nd.set.length scp,.int .i64 nd.min,.int .i64 nd.max,.int .i64 nd.group] 149)).drew:=by
  have k0:(w.alloc (.cells #[.slice (some ⟨b,o,none⟩) ns.length c,.slice (some ⟨gl,0,none⟩) ns.length cl,.slice (some ⟨gr,0,none⟩) ns.length cr,.string t] 119)).heap[w.heap.size]?=_:=zvZ _ _;have k1:((w.alloc (.cells #[.slice (some ⟨b,o,none⟩) ns.length c,.slice (some ⟨gl,0,none⟩) ns.length cl,.slice (some ⟨gr,0,none⟩) ns.length cr,.string t] 119)).alloc (.cells #[.int .i64 2,.slice sao nd.set.length scp,.int .i64 nd.min,.int .i64 nd.max,.int .i64 nd.group] 149)).heap[w.heap.size]?=_:=zak k0;have k2:((w.alloc (.cells #[.slice (some ⟨b,o,none⟩) ns.length c,.slice (some ⟨gl,0,none⟩) ns.length cl,.slice (some ⟨gr,0,none⟩) ns.length cr,.string t] 119)).alloc (.cells #[.int .i64 2,.slice sao nd.set.length scp,.int .i64 nd.min,.int .i64 nd.max,.int .i64 nd.group] 149)).heap[w.heap.size+1]?=some (.cells #[.int .i64 2,.slice sao nd.set.length scp,.int .i64 nd.min,.int .i64 nd.max,.int .i64 nd.group] 149 (0,0)):=by have:=zvZ (w.alloc (.cells #[.slice (some ⟨b,o,none⟩) ns.length c,.slice (some ⟨gl,0,none⟩) ns.length cl,.slice (some ⟨gr,0,none⟩) ns.length cr,.string t] 119)) (.cells #[.int .i64 2,.slice sao nd.set.length scp,.int .i64 nd.min,.int .i64 nd.max,.int .i64 nd.group] 149);simpa using this
  obtain⟨p0,p1,p2,p3⟩:=zaH k1;obtain⟨q0,q1,q2,q3,q4⟩:=zbV k2;have hb:Below w.heap.size w ((w.alloc (.cells #[.slice (some ⟨b,o,none⟩) ns.length c,.slice (some ⟨gl,0,none⟩) ns.length cl,.slice (some ⟨gr,0,none⟩) ns.length cr,.string t] 119)).alloc (.cells #[.int .i64 2,.slice sao nd.set.length scp,.int .i64 nd.min,.int .i64 nd.max,.int .i64 nd.group] 149)):=((Below.refl _ _).alloc (zvJ _) _).alloc (by simp) _;exact⟨hb.drew,by simp,p0,p1,p2,p3,q0,q1,q2,q3,q4,(hb.cell (p:=⟨gl,n,none⟩) hlt).trans l0,(hb.cell (p:=⟨gr,n,none⟩) hrt).trans r0,hlt,hrt⟩
 have HB0:=H0.1
 go_enter Tryz.func90,Tryz.ntmps90
 go_wp2
 go_region_held3 (fun w'=>Below w.heap.size w w'/\w.heap.size+1<w'.heap.size/\w'.cell? ⟨w.heap.size,0,none⟩=some (.slice (some ⟨b,o,none⟩) ns.length c)/\w'.cell? ⟨w.heap.size,1,none⟩=some (.slice (some ⟨gl,0,none⟩) ns.length cl)/\w'.cell? ⟨w.heap.size,2,none⟩=some (.slice (some ⟨gr,0,none⟩) ns.length cr)/\w'.cell? ⟨w.heap.size,3,none⟩=some (.string t)/\w'.cell? ⟨gl,n,none⟩=some (.int .i64 x)/\w'.cell? ⟨gr,n,none⟩=some (.int .i64 y)) ((first|exact zc0 hlt hrt (by assumption) hb2|exact zc0 hlt hrt (by assumption) hb3|go_keep)) ((first|(have hgo:=hB2;go_at_call 90;refine(hY' _ (by first|exact HB0|exact(‹Below w.heap.size w _/\_›).1) g2 c2 S2 _ hgo hl2 hs2).mono ?_;rintro e w3 ⟨g3,c3,S3,rfl,hB3,hl3,hs3,hb3⟩)|(go_at_call 90;refine(hX' _ (by first|exact HB0|exact(‹Below w.heap.size w _/\_›).1)).mono ?_;rintro e w2 ⟨g2,c2,S2,rfl,hB2,hl2,hs2,hb2⟩)))
 all_goals
  have hfin:=‹Below w.heap.size w _/\_›;go_wp2;refine zvV (v:=.slice (some ⟨g3,0,none⟩) m c3) (by simp[results,Tryz.results90,go_sem]) rfl ⟨g3,c3,S3,rfl,hB3,hl3,hs3.congr fun j=>(zgo j).symm,hfin.1⟩
theorem zo9(ns:List zaq)(n x y:Nat)(hn:n<ns.length)(hk:zat ns n=3)(hT:tOf ns n=.alt (tOf ns x) (tOf ns y))(hL:zbL ns n=x)(hR:zbD ns n=y)(hX:zcl ns x)(hY:zcl ns y):zcl ns n:=by
 intro w ao c gl cl gr cr t g cap m S F hbr hS hSm hF ht;rw[hT];obtain⟨ao2,cap2,hv,hml,hc⟩:=hbr.nodes;cases hv;obtain⟨b,o,sv,nd,rfl,Hn,hbl,c0,c1,c2,c3,c4,hsv⟩:=hc.elem (Below.refl _ _) hn;have hk1:nd.kind=3:=by rw[<-hk];unfold zat;rw[Hn.out]
 rw[hk1] at c0;obtain⟨sao,scp,rfl,hsm,hsc⟩:=hsv;have hX':=fun(z:Nat) (W:World) (hb:Below w.heap.size w W) (hz:z=x)=>(hz ▸ hX:zcl ns z) W (some ⟨b,o,none⟩) c gl cl gr cr t g cap m S F (hbr.below hb) (hS.below hb) hSm hF ht
 have hY':=fun(z:Nat) (W:World) (hb:Below w.heap.size w W) (hz:z=y)=>(hz ▸ hY:zcl ns z) W (some ⟨b,o,none⟩) c gl cl gr cr t g cap m S F (hbr.below hb) (hS.below hb) hSm hF ht
 have hm5:m<=1048576:=by have:=hF.len;omega
 have l0:=hbr.left n hn;rw[hL] at l0;have r0:=hbr.right n hn;rw[hR] at r0;have hlt:=hbr.ltl;have hrt:=hbr.ltr;clear hk hT hk1 hc hsc hbr hX hY hF;have hi0:(0:Int)<=(n:Int):=by omega
 have hi1:(n:Int)<(ns.length:Int):=by omega
 have H0:EndH w (.slice (some ⟨b,o,none⟩) ns.length c) (.slice (some ⟨gl,0,none⟩) ns.length cl) (.slice (some ⟨gr,0,none⟩) ns.length cr) (.string t) (.int .i64 3) (.slice sao nd.set.length scp) (.int .i64 nd.min) (.int .i64 nd.max) (.int .i64 nd.group) gl gr n (.int .i64 x) (.int .i64 y) ((w.alloc (.cells #[.slice (some ⟨b,o,none⟩) ns.length c,.slice (some ⟨gl,0,none⟩) ns.length cl,.slice (some ⟨gr,0,none⟩) ns.length cr,.string t] 119)).alloc (.cells #[.int .i64 3,.slice sao nd.set.length scp,.int .i64 nd.min,.int .i64 nd.max,.int .i64 nd.group] 149)).drew:=by
  have k0:(w.alloc (.cells #[.slice (some ⟨b,o,none⟩) ns.length c,.slice (some ⟨gl,0,none⟩) ns.length cl,.slice (some ⟨gr,0,none⟩) ns.length cr,.string t] 119)).heap[w.heap.size]?=_:=zvZ _ _;have k1:((w.alloc (.cells #[.slice (some ⟨b,o,none⟩) ns.length c,.slice (some ⟨gl,0,none⟩) ns.length cl,.slice (some ⟨gr,0,none⟩) ns.length cr,.string t] 119)).alloc (.cells #[.int .i64 3,.slice sao nd.set.length scp,.int .i64 nd.min,.int .i64 nd.max,.int .i64 nd.group] 149)).heap[w.heap.size]?=_:=zak k0;have k2:((w.alloc (.cells #[.slice (some ⟨b,o,none⟩) ns.length c,.slice (some ⟨gl,0,none⟩) ns.length cl,.slice (some ⟨gr,0,none⟩) ns.length cr,.string t] 119)).alloc (.cells #[.int .i64 3,.slice sao nd.set.length scp,.int .i64 nd.min,.int .i64 nd.max,.int .i64 nd.group] 149)).heap[w.heap.size+1]?=some (.cells #[.int .i64 3,.slice sao nd.set.length scp,.int .i64 nd.min,.int .i64 nd.max,.int .i64 nd.group] 149 (0,0)):=by have:=zvZ (w.alloc (.cells #[.slice (some ⟨b,o,none⟩) ns.length c,.slice (some ⟨gl,0,none⟩) ns.length cl,.slice (some ⟨gr,0,none⟩) ns.length cr,.string t] 119)) (.cells #[.int .i64 3,.slice sao nd.set.length scp,.int .i64 nd.min,.int .i64 nd.max,.int .i64 nd.group] 149);simpa using this
  obtain⟨p0,p1,p2,p3⟩:=zaH k1;obtain⟨q0,q1,q2,q3,q4⟩:=zbV k2;have hb:Below w.heap.size w ((w.alloc (.cells #[.slice (some ⟨b,o,none⟩) ns.length c,.slice (some ⟨gl,0,none⟩) ns.length cl,.slice (some ⟨gr,0,none⟩) ns.length cr,.string t] 119)).alloc (.cells #[.int .i64 3,.slice sao nd.set.length scp,.int .i64 nd.min,.int .i64 nd.max,.int .i64 nd.group] 149)):=((Below.refl _ _).alloc (zvJ _) _).alloc (by simp) _;exact⟨hb.drew,by simp,p0,p1,p2,p3,q0,q1,q2,q3,q4,(hb.cell (p:=⟨gl,n,none⟩) hlt).trans l0,(hb.cell (p:=⟨gr,n,none⟩) hrt).trans r0,hlt,hrt⟩
 have HB0:=H0.1
 go_enter Tryz.func90,Tryz.ntmps90
 go_wp2
 go_region_held3 (fun w'=>Below w.heap.size w w'/\w.heap.size+1<w'.heap.size/\w'.cell? ⟨w.heap.size,0,none⟩=some (.slice (some ⟨b,o,none⟩) ns.length c)/\w'.cell? ⟨w.heap.size,1,none⟩=some (.slice (some ⟨gl,0,none⟩) ns.length cl)/\w'.cell? ⟨w.heap.size,2,none⟩=some (.slice (some ⟨gr,0,none⟩) ns.length cr)/\w'.cell? ⟨w.heap.size,3,none⟩=some (.string t)/\w'.cell? ⟨gl,n,none⟩=some (.int .i64 x)/\w'.cell? ⟨gr,n,none⟩=some (.int .i64 y)) ((first|exact zc0 hlt hrt (by assumption) hb2|exact zc0 hlt hrt (by assumption) hb3|exact zc0 hlt hrt (by assumption) hb4|go_keep)) ((first|(go_at_call 113;refine(zui m S2 S3 g2 g3 c2 c3 _ (by first|exact hB2.below hb3|exact hB2) (by first|exact hB3|exact hB3.below hb2) hl2 hl3 hm5).mono ?_;rintro e w4 ⟨rfl,hO,hb4⟩)|(go_at_call 90;refine(hX' _ _ (by first|exact HB0|exact(‹Below w.heap.size w _/\_›).1) ?hz).mono ?_;(case hz=>exact rfl);rintro e w2 ⟨g2,c2,S2,rfl,hB2,hl2,hs2,hb2⟩)|(go_at_call 90;refine(hY' _ _ (by first|exact HB0|exact(‹Below w.heap.size w _/\_›).1) ?hz).mono ?_;(case hz=>exact rfl);rintro e w3 ⟨g3,c3,S3,rfl,hB3,hl3,hs3,hb3⟩)))
 all_goals
  have hfin:=‹Below w.heap.size w _/\_›;go_wp2;refine zvV (v:=.slice (some ⟨_,0,none⟩) m m) (by simp[results,Tryz.results90,go_sem]) rfl ⟨_,m,orL S2 S3,rfl,hO,by rw[zfN];exact hl2,(zmF hs2 hs3).congr fun j=>(zrj j).symm,hfin.1⟩
theorem zgG(ns:List zaq)(ha:∀i,i<ns.length->zaE (zat ns i)<=(stk ns i).length)(hb:ns.all zaB=true):∀n,n<ns.length->zcl ns n:=by
 intro n
 induction n using Nat.strongRecOn with
 |ind n ih=>
  intro hn;have hnode:zaB (ns.getD n .zero)=true:=zuP.1 hb (ns.getD n .zero) (by
   rw[zu3,zva hn];exact zvg _)
  have har:=ha n hn;have hkd:zat ns n=(ns.getD n .zero).kind:=rfl
  by_cases h1:zat ns n=1
  ·refine zpd ns n hn h1 ?_;unfold tOf zbO;rw[zv3 (by rw[<-hkd];exact h1)]
  by_cases h2:zat ns n=2
  ·obtain⟨x,y,hL,hR,hx,hy,hT⟩:=zdE (ns:=ns) (k:=n) (by rw[h2];rfl) (by rw[h2] at har;exact har);refine zpc ns n x y hn h2 ?_ hL hR (ih x hx (by omega)) (ih y hy (by omega));rw[hT];unfold zbO;rw[zv2 (by rw[<-hkd];exact h1),zv3 (by rw[<-hkd];exact h2)]
   rfl
  by_cases h3:zat ns n=3
  ·obtain⟨x,y,hL,hR,hx,hy,hT⟩:=zdE (ns:=ns) (k:=n) (by rw[h3];rfl) (by rw[h3] at har;exact har);refine zo9 ns n x y hn h3 ?_ hL hR (ih x hx (by omega)) (ih y hy (by omega));rw[hT];unfold zbO;rw[zv2 (by rw[<-hkd];exact h1),zv2 (by rw[<-hkd];exact h2),zv3 (by rw[<-hkd];exact h3)]
   rfl
  by_cases h4:zat ns n=4
  ·obtain⟨x,hL,hx,hT⟩:=zdD (ns:=ns) (k:=n) (by rw[h4];rfl) (by rw[h4] at har;exact har);have hbd:zaM (ns.getD n .zero).min (ns.getD n .zero).max=true:=by
    unfold zaB at hnode;rw[zv2 (by rw[<-hkd];exact h1),zv2 (by rw[<-hkd];exact fun h=>h.elim h2 h3),zv3 (by rw[<-hkd];exact h4)] at hnode;simp only[zuK] at hnode;exact hnode.1.2
   simp[zaM] at hbd;refine zpb ns n x (ns.getD n .zero).min.toNat hn h4 ?_ hL (ih x hx (by omega)) (by simp only[zu3];omega) (by simp only[zu3];omega) (by simp only[zu3];omega);rw[hT];unfold zbO;rw[zv2 (by rw[<-hkd];exact h1),zv2 (by rw[<-hkd];exact h2),zv2 (by rw[<-hkd];exact h3),zv3 (by rw[<-hkd];exact h4)];have:(((ns.getD n .zero).min.toNat:Nat):Int)=(ns.getD n .zero).min:=by simp only[zu3];omega
   rw[this]
   rfl
  have h5:zat ns n=5:=by
   by_cases h5:zat ns n=5
   ·exact h5
   ·exfalso
    unfold zaB at hnode;rw[zv2 (by rw[<-hkd];exact h1),zv2 (by rw[<-hkd];exact fun h=>h.elim h2 h3),zv2 (by rw[<-hkd];exact h4),zv2 (by rw[<-hkd];exact h5)] at hnode;cases hnode
  obtain⟨x,hL,hx,hT⟩:=zdD (ns:=ns) (k:=n) (by rw[h5];rfl) (by rw[h5] at har;exact har);refine zpa ns n x hn h5 ?_ hL (ih x hx (by omega));rw[hT];unfold zbO;rw[zv2 (by rw[<-hkd];exact h1),zv2 (by rw[<-hkd];exact h2),zv2 (by rw[<-hkd];exact h3),zv2 (by rw[<-hkd];exact h4)]
  rfl
end
section
open Go.RowKit
attribute [local go_sem ↓] Go.wp_at_zero Go.wp_at_succ
def zdK(bol eol:Bool)(n:Nat)(a e:Nat)(cl:Bool):Bool:=!(bol && !(a==0))&&(!eol || (cl&&e==n))
theorem zqg(bol eol cl:Bool)(ao:Option Addr)(k c:Nat)(t:ByteArray)(a e:Nat)(w:World):
  Calls Tryz.prog 89 #[.agg #[.bool bol,.bool eol,.slice ao k c],.string t,.int .i64 a,.int .i64 e,.bool cl] w fun r w'=>r=.returned (.bool (zdK bol eol t.size a e cl))/\Below w.heap.size w w':=by
 have hb:Below w.heap.size w (w.alloc (.cells #[.bool bol,.bool eol,.slice ao k c] 115)):=(Below.refl _ _).alloc (zvJ _) _;have h0:((a:Int) != 0)=!(a==0):=by
  by_cases h:a=0
  ·subst h;rfl
  ·have:((a:Int) != 0)=true:=by simp;omega
   rw[this];simp;omega
 have h1:((e:Int)==(t.size:Int))=(e==t.size):=by
  by_cases h:e=t.size
  ·subst h;simp
  ·have:((e:Int)==(t.size:Int))=false:=by simp;omega
   rw[this];simp;omega
 have Hp:Hid (zdK bol eol t.size a e cl=(!(bol && !(a==0))&&(!eol || (cl&&e==t.size)))):=rfl;cases hz:(a==0)<;>cases he:(e==t.size)<;>cases bol<;>cases eol<;>cases cl
 all_goals
  rw[hz] at h0 Hp;rw[he] at h1 Hp
  go_enter Tryz.func89,Tryz.ntmps89
  go_wp2;go_ret;exact⟨zae Hp.out.symm,hb⟩
theorem zm4{lo:Nat}(bol eol:Bool)(ao:Option Addr)(c:Nat)(ns:List zaq)(t:ByteArray)(w:World)(hs:zaI lo w (.slice ao ns.length c) ns)(hn:ns.length<=1048576)(hk:zcA ns=true):
  Calls Tryz.prog 67 #[.agg #[.bool bol,.bool eol,.slice ao ns.length c],.string t] w fun r w'=>Below w.heap.size w w'/\∃gl cl gr cr,r=.returned (.agg #[.slice ao ns.length c,.slice (some ⟨gl,0,none⟩) ns.length cl,.slice (some ⟨gr,0,none⟩) ns.length cr,.string t])/\BrAt w' ns (.slice ao ns.length c) gl gr:=by
 have hb:Below w.heap.size w ((w.alloc (.cells #[.bool bol,.bool eol,.slice ao ns.length c] 115)).alloc (.cells #[.slice none 0 0,.slice none 0 0,.slice none 0 0,.string ⟨#[]⟩] 119)):=((Below.refl _ _).alloc (zvJ _) _).alloc (by simp) _;have hKids:=fun(W:World) (hb:Below w.heap.size w W)=>zlw _ ns W (hs.below hb) hn
 go_enter Tryz.func67,Tryz.ntmps67
 go_wp2_with fail
 refine(hKids _ hb).mono ?_;rintro e w1 ⟨hb1,h|⟨-,gl,cl,gr,cr,rfl,ol,or_,-⟩⟩
 ·rw[hk] at h;cases h.1
 have k0:((w.alloc (.cells #[.bool bol,.bool eol,.slice ao ns.length c] 115)).alloc (.cells #[.slice none 0 0,.slice none 0 0,.slice none 0 0,.string ⟨#[]⟩] 119)).heap[w.heap.size]?=some (.cells #[.bool bol,.bool eol,.slice ao ns.length c] 115 (0,0)):=zak (zvZ _ _);have k1:((w.alloc (.cells #[.bool bol,.bool eol,.slice ao ns.length c] 115)).alloc (.cells #[.slice none 0 0,.slice none 0 0,.slice none 0 0,.string ⟨#[]⟩] 119)).heap[w.heap.size+1]?=some (.cells #[.slice none 0 0,.slice none 0 0,.slice none 0 0,.string ⟨#[]⟩] 119 (0,0)):=by have:=zvZ (w.alloc (.cells #[.bool bol,.bool eol,.slice ao ns.length c] 115)) (.cells #[.slice none 0 0,.slice none 0 0,.slice none 0 0,.string ⟨#[]⟩] 119);simpa using this
 have p0:=zaz k0 hb1;have p1:=zaz k1 hb1;have q0:=(zvW _ _ _ _ _ _ p0:w1.cell? ⟨w.heap.size,2,none⟩=_);simp at q0;obtain⟨d0,d1,d2,d3⟩:=zaH p1;have f0:w1.frozen? ⟨w.heap.size+1,0,none⟩=false:=by simp[World.frozen?,p1]
 have f1:w1.frozen? ⟨w.heap.size+1,1,none⟩=false:=by simp[World.frozen?,p1]
 have f2:w1.frozen? ⟨w.heap.size+1,2,none⟩=false:=by simp[World.frozen?,p1]
 have f3:w1.frozen? ⟨w.heap.size+1,3,none⟩=false:=by simp[World.frozen?,p1]
 go_wp2;have hbb:Below w.heap.size w ((((w1.setCell ⟨w.heap.size+1,0,none⟩ (.slice ao ns.length c)).setCell ⟨w.heap.size+1,1,none⟩ (.slice (some ⟨gl,0,none⟩) ns.length cl)).setCell ⟨w.heap.size+1,2,none⟩ (.slice (some ⟨gr,0,none⟩) ns.length cr)).setCell ⟨w.heap.size+1,3,none⟩ (.string t)):=by
  iterate 4 refine Below.setCell ?_ (by simp) _
  exact zaa hb hb.size hb1
 have hgl:=(zbu ol).1;have hgr:=(zbu or_).1;simp only[World.size_alloc] at hgl hgr;have hcell:∀g o,g≠w.heap.size+1->((((w1.setCell ⟨w.heap.size+1,0,none⟩ (.slice ao ns.length c)).setCell ⟨w.heap.size+1,1,none⟩ (.slice (some ⟨gl,0,none⟩) ns.length cl)).setCell ⟨w.heap.size+1,2,none⟩ (.slice (some ⟨gr,0,none⟩) ns.length cr)).setCell ⟨w.heap.size+1,3,none⟩ (.string t)).cell? ⟨g,o,none⟩=w1.cell? ⟨g,o,none⟩:=fun g o hg=>
  World.cell?_of_block (w:=w1) (by rw[Below.heap_setCell _ _ _ _ hg,Below.heap_setCell _ _ _ _ hg,Below.heap_setCell _ _ _ _ hg,Below.heap_setCell _ _ _ _ hg])
 refine zvV (v:=.agg #[.slice ao ns.length c,.slice (some ⟨gl,0,none⟩) ns.length cl,.slice (some ⟨gr,0,none⟩) ns.length cr,.string t]) (by simp[results,Tryz.results67,go_sem,d0,d1,d2,d3]) rfl ⟨hbb,gl,cl,gr,cr,rfl,(hs.below hbb).mono (zvT _),?_,?_,fun i hi=>?_,fun i hi=>?_⟩
 ·have:=zcE ol;simpa [World.setCell] using this
 ·have:=zcE or_;simpa [World.setCell] using this
 ·rw[hcell gl i (by omega),ol.cellAt i (by omega)];simp[rowL,hi]
 ·rw[hcell gr i (by omega),or_.cellAt i (by omega)];simp[rowR,hi]
end
section
open Go.RowKit
attribute [local go_sem ↓] Go.wp_at_zero Go.wp_at_succ
def zaP(b:zah)(t:ByteArray)(a e:Nat)(cl:Bool):Prop:=zdK b.bol b.eol t.size a e cl=true/\In (tOf b.nodes (b.nodes.length-1)) ((t.data.toList.drop a).take (e-a))
def zq4(w:World)(P:Prop)(r:Ending)(w':World):Prop:=∃b:Bool,r=.returned (.bool b)/\(b=true↔P)/\Below w.heap.size w w'
theorem zsD{w a b c d:World}(h:Below w.heap.size w a)(h1:Below a.heap.size a b)(h2:Below b.heap.size b c)(h3:Below c.heap.size c d):Below w.heap.size w d:=by
 have k1:=zaa h h.size h1;have k2:=zaa k1 k1.size h2;exact zaa k2 k2.size h3
theorem zh9{lo:Nat}(bd:zah)(ao:Option Addr)(c:Nat)(t:ByteArray)(a e:Nat)(cl:Bool)(w:World)(hs:zaI lo w (.slice ao bd.nodes.length c) bd.nodes)(hn:bd.nodes.length<=1048576)(hk:zcA bd.nodes=true)(hnb:bd.nodes.all zaB=true)
  (ha:∀i,i<bd.nodes.length->zaE (zat bd.nodes i)<=(stk bd.nodes i).length) (hpos:0<bd.nodes.length) (hae:a<=e) (het:e<=t.size) (ht:t.size<=4096):
  Calls Tryz.prog 65 #[.agg #[.bool bd.bol,.bool bd.eol,.slice ao bd.nodes.length c],.string t,.int .i64 a,.int .i64 e,.bool cl] w fun r w'=>zq4 w (zaP bd t a e cl) r w':=by
 obtain⟨bol,eol,ns⟩:=bd;unfold zaP;dsimp only at *;have hb0:Below w.heap.size w (w.alloc (.cells #[.bool bol,.bool eol,.slice ao ns.length c] 115)):=(Below.refl _ _).alloc (zvJ _) _;have k0:(w.alloc (.cells #[.bool bol,.bool eol,.slice ao ns.length c] 115)).heap[w.heap.size]?=some (.cells #[.bool bol,.bool eol,.slice ao ns.length c] 115 (0,0)):=zvZ _ _;have hE:=zgG ns ha hnb (ns.length-1) (by omega);have hReady:=fun(W:World) (hb:Below w.heap.size w W)=>zm4 bol eol ao c ns t W (hs.below hb) hn hk
 have hOnly:=fun(W:World)=>zlX t.size a W (by omega) (by omega)
 have hEnds:∀(z:Int) (W:World) (gl cl gr cr g:Nat),z=((ns.length-1:Nat):Int)->BrAt W ns (.slice ao ns.length c) gl gr->zbB W g (zew t.size a)->
   Calls Tryz.prog 90 #[.agg #[.slice ao ns.length c,.slice (some ⟨gl,0,none⟩) ns.length cl,.slice (some ⟨gr,0,none⟩) ns.length cr,.string t],.int .i64 z,.slice (some ⟨g,0,none⟩) (t.size+1) (t.size+1)] W fun r w'=>zoG W t (t.size+1) (zbc t.data.toList (In (tOf ns (ns.length-1))) (· = a)) r w':=by
  intro z W gl cl gr cr g hz h1 h2;subst hz;exact hE W ao c gl cl gr cr t g (t.size+1) (t.size+1) (zew t.size a) _ h1 h2 (by simp[zew]) (zfJ t.size a (by omega)) ht
 have hwr:∀z:Int,z=IntKind.i64.wrap ((ns.length:Int)-1)->z=((ns.length-1:Nat):Int):=fun z h=>by rw[h,IntKind.wrap_i64];omega
 clear hE ha hnb hk hs;have hpl:=fun(W:World)=>zqg bol eol cl ao ns.length c t a e W
 have HT:Hid (∀j,zbc t.data.toList (In (tOf ns (ns.length-1))) (· = a) j↔(a<=j/\j<=t.size)/\In (tOf ns (ns.length-1)) ((t.data.toList.drop a).take (j-a))):=fun j=>by
  constructor
  ·rintro ⟨i,rfl,h1,h2,h3⟩;exact⟨⟨h1,by simpa using h2⟩,h3⟩
  ·rintro ⟨⟨h1,h2⟩,h3⟩;exact⟨a,rfl,h1,by simpa using h2,h3⟩
 generalize In (tOf ns (ns.length-1))=L at *
 go_enter Tryz.func65,Tryz.ntmps65
 go_wp2_with fail
 refine(hpl _).mono ?_;rintro r w1 ⟨rfl,hb1⟩;have p0:=zaz k0 hb1;have bl1:=zaa hb0 hb0.size hb1;have hq:∀o,w1.cell? ⟨w.heap.size,o,none⟩=#[Value.bool bol,.bool eol,.slice ao ns.length c][o]?:=fun _=>zvW _ _ _ _ _ _ p0
 have q0:w1.cell? ⟨w.heap.size,0,none⟩=some (.bool bol):=hq 0;have q1:w1.cell? ⟨w.heap.size,1,none⟩=some (.bool eol):=hq 1;have q2:w1.cell? ⟨w.heap.size,2,none⟩=some (.slice ao ns.length c):=hq 2;have hl1:=zcp p0;clear hq hpl hb1 hb0 k0;cases hp:zdK bol eol t.size a e cl
 ·go_wp2;go_ret;exact⟨false,rfl,by rw[hp];simp,bl1⟩
 have bl1d:=bl1.drew;have hi0:(0:Int)<=(e:Int):=by omega
 have hi1:(e:Int)<(t.size:Int)+1:=by omega
 go_wp2
 go_region_with (first|(go_at_call 67;refine(hReady _ (by first|exact bl1d|exact zaa bl1d bl1d.size hb3)).mono ?_;rintro r w2 ⟨hb2,gl,cl2,gr,cr,rfl,hbr⟩;have bl2:=hb2.size;have y0:=(hb2.cell (p:=⟨w.heap.size,0,none⟩) (by first|exact hl1|exact zvL hl1 bl3)).trans (by first|exact q0|exact z0);have y1:=(hb2.cell (p:=⟨w.heap.size,1,none⟩) (by first|exact hl1|exact zvL hl1 bl3)).trans (by first|exact q1|exact z1);have y2:=(hb2.cell (p:=⟨w.heap.size,2,none⟩) (by first|exact hl1|exact zvL hl1 bl3)).trans (by first|exact q2|exact z2))|(go_at_call 91;refine(hOnly _).mono ?_;rintro r w3 ⟨rfl,hB3,hb3⟩;have bl3:=hb3.size;have z0:=(hb3.cell (p:=⟨w.heap.size,0,none⟩) (by first|exact hl1|exact zvL hl1 bl2)).trans (by first|exact q0|exact y0);have z1:=(hb3.cell (p:=⟨w.heap.size,1,none⟩) (by first|exact hl1|exact zvL hl1 bl2)).trans (by first|exact q1|exact y1);have z2:=(hb3.cell (p:=⟨w.heap.size,2,none⟩) (by first|exact hl1|exact zvL hl1 bl2)).trans (by first|exact q2|exact y2))|(go_at_call 90;refine(hEnds _ _ gl cl2 gr cr _ (by first|rfl|exact hwr _ rfl) (by first|exact hbr.below hb3|exact hbr) (by first|exact hB3|exact hB3.below hb2)).mono ?_;rintro r w4 ⟨g4,c4,S4,rfl,hB4,hl4,hs4,hb4⟩;have hcell:=hB4.2 e (by omega);obtain⟨q,hq⟩:∃q,S4.getD e false=q:=⟨_,rfl⟩;rw[hq] at hcell;have Hq:Hid _:=hq;clear hq;have bel4:Below w.heap.size w w4:=by first|exact zsD bl1d hb2 hb3 hb4|exact zsD bl1d hb3 hb2 hb4))
 all_goals
  have hiff:q=true↔L ((t.data.toList.drop a).take (e-a)):=by
   rw[<-Hq.out];exact(hs4.iff e).trans ((HT.out e).trans ⟨fun h=>h.2,fun h=>⟨⟨hae,het⟩,h⟩⟩)
  go_wp2;go_ret;exact⟨q,rfl,hiff.trans ⟨fun h=>⟨hp,h⟩,fun h=>h.2⟩,bel4⟩
end
section
variable{lo:Nat}
open Go.RowKit
theorem ze7(ns:List zaq)(h:zcA ns=true):0<ns.length/\∀i,i<ns.length->zaE (zat ns i)<=(stk ns i).length:=by
 have h1:zdx ns 0=some 1:=eq_of_beq h;have key:∀k,k<=ns.length->zdx (ns.drop k) (stk ns k).length=some 1/\∀i,i<k->zaE (zat ns i)<=(stk ns i).length:=by
  intro k
  induction k with
  |zero=>intro _;exact⟨h1,fun i hi=>absurd hi (zvQ _)⟩
  |succ k ih=>
   intro hk;obtain⟨e,hs⟩:=ih (by omega);rw[zil ns k (by omega) _ _ rfl] at e
   by_cases hc:(stk ns k).length<zaE (zat ns k)
   ·rw[zv3 hc] at e;cases e
   ·rw[zv2 hc] at e;refine⟨by rw[zmg];exact e,fun i hi=>?_⟩
    by_cases hik:i=k
    ·subst hik;omega
    ·exact hs i (by omega)
 refine⟨?_,(key ns.length (zvJ _)).2⟩;rcases zvI ns.length with h0|h0
 ·have:ns=[]:=zuZ h0;subst this;cases h1
 ·exact h0
def zdA(G:Int)(bs:List zah)(t:ByteArray)(a e:Int):Bool:=zbP G bs&&decide (t.size<=4096/\0<=a/\a<=e/\e<=t.size)
theorem zkF(G:Int)(v:Value)(bs:List zah)(t:ByteArray)(a e:Int)(w:World)(hs:zao lo w v bs)(hsm:Small bs):
  Calls Tryz.prog 64 #[.agg #[v,.int .i64 G],.string t,.int .i64 a,.int .i64 e] w fun r w'=>r=.returned (.bool (zdA G bs t a e))/\Below w.heap.size w w':=by
 have hs0:=hs;obtain⟨ao,cap,rfl,hm,hc⟩:=hs;have hb0:Below w.heap.size w (w.alloc (.cells #[.slice ao bs.length cap,.int .i64 G] 69)):=(Below.refl _ _).alloc (zvJ _) _;have Hp:Hid (zdA G bs t a e=(zbP G bs&&decide (t.size<=4096/\0<=a/\a<=e/\e<=t.size))):=rfl;have hr:=zfi G _ bs _ (hs0.below hb0) hsm;clear hc hs0 hsm;generalize zbP G bs=q at *
 go_enter Tryz.func64,Tryz.ntmps64
 go_wp2_with fail
 refine hr.mono ?_;rintro r w1 ⟨rfl,hb1⟩;have bl:=zaa hb0 hb0.size hb1;clear hr hb1 hb0;cases q
 ·go_wp2;go_ret;exact⟨zae (by rw[Hp.out];rfl),bl⟩
 by_cases h1:(t.size:Int)<=4096
 ·by_cases h2:0<=a
  ·by_cases h3:a<=e
   ·by_cases h4:e<=(t.size:Int)
    ·go_wp2;go_ret;exact⟨zae (by rw[Hp.out,zuN];first|exact(decide_eq_true (by omega)).symm|exact(decide_eq_false (by omega)).symm|(rw[decide_eq_decide];omega)),bl⟩
    ·go_wp2;go_ret;exact⟨zae (by rw[Hp.out,zuN];first|exact(decide_eq_true (by omega)).symm|exact(decide_eq_false (by omega)).symm|(rw[decide_eq_decide];omega)),bl⟩
   ·go_wp2;go_ret;exact⟨zae (by rw[Hp.out,zuN];first|exact(decide_eq_true (by omega)).symm|exact(decide_eq_false (by omega)).symm|(rw[decide_eq_decide];omega)),bl⟩
  ·go_wp2;go_ret;exact⟨zae (by rw[Hp.out,zuN];first|exact(decide_eq_true (by omega)).symm|exact(decide_eq_false (by omega)).symm|(rw[decide_eq_decide];omega)),bl⟩
 ·go_wp2;go_ret;exact⟨zae (by rw[Hp.out,zuN];first|exact(decide_eq_true (by omega)).symm|exact(decide_eq_false (by omega)).symm|(rw[decide_eq_decide];omega)),bl⟩
def zeF(G:Int)(bs:List zah)(t:ByteArray)(a e:Int)(cl:Bool):Prop:=zdA G bs t a e=true/\∃k,k<bs.length/\zaP (bs.getD k .zero) t a.toNat e.toNat cl
theorem zmf(G:Int)(v:Value)(bs:List zah)(t:ByteArray)(a e:Int)(cl:Bool)(w:World)(hs:zao lo w v bs)(hsm:Small bs):
  Calls Tryz.prog 32 #[.agg #[v,.int .i64 G],.string t,.int .i64 a,.int .i64 e,.bool cl] w fun r w'=>zq4 w (zeF G bs t a e cl) r w':=by
 have hs0:=hs;obtain⟨ao,cap,rfl,hm,hc⟩:=hs;have hb0:Below w.heap.size w (w.alloc (.cells #[.slice ao bs.length cap,.int .i64 G] 69)):=(Below.refl _ _).alloc (zvJ _) _;have k0:(w.alloc (.cells #[.slice ao bs.length cap,.int .i64 G] 69)).heap[w.heap.size]?=some (.cells #[.slice ao bs.length cap,.int .i64 G] 69 (0,0)):=zvZ _ _;have hr:=zkF G _ bs t a e _ (hs0.below hb0) hsm;clear hs0
 go_enter Tryz.func32,Tryz.ntmps32
 go_wp2_with fail
 refine hr.mono ?_;rintro r w1 ⟨rfl,hb1⟩;have bl:=zaa hb0 hb0.size hb1;have p0:=zaz k0 hb1;have q0:w1.cell? ⟨w.heap.size,0,none⟩=some (.slice ao bs.length cap):=(zvW _ _ _ _ _ _ p0:w1.cell? ⟨w.heap.size,0,none⟩=_);clear hr hb1 hb0 k0;cases hq:zdA G bs t a e
 ·go_wp2;go_ret;refine⟨false,rfl,⟨fun h=>(Bool.false_ne_true h).elim,fun h=>?_⟩,bl⟩;have:=h.1;rw[hq] at this;exact this
 have hq0:=hq;unfold zdA zbP at hq0;simp only[zuK,zvX] at hq0;obtain⟨⟨⟨⟨⟨⟨⟨hb1,-⟩,-⟩,hall⟩,-⟩,-⟩,-⟩,ht,ha0,hae,het⟩:=hq0;obtain⟨a',rfl⟩:∃a':Nat,a=a':=⟨a.toNat,by omega⟩;obtain⟨e',rfl⟩:∃e':Nat,e=e':=⟨e.toNat,by omega⟩;have hbel:=fun(k:Nat) (hk:k<bs.length) (W:World) (ao:Option Addr) (c:Nat) (h:zaI lo W (.slice ao (bs.getD k .zero).nodes.length c) (bs.getD k .zero).nodes)=>by
  have hmem:bs.getD k .zero∈bs:=by rw[zu3,zva hk];exact zvg _
  have hkb:=zuP.1 hall _ hmem;simp only[zuK] at hkb;have hst:=ze7 _ hkb.1;exact zh9 (bs.getD k .zero) ao c t a' e' cl W h (hsm.2 k hk).1 hkb.1 hkb.2 hst.2 hst.1 (by omega) (by omega) ht
 have Hq:Hid _:=hq;have hlen:=hsm.1;clear hall hsm hq;go_wp2
 go_loopw [22] (fun i wr=>∃k:Nat,k<=bs.length/\i=.int .i64 k/\Below w.heap.size w wr/\Hid (∀j,j<k->¬zaP (bs.getD j .zero) t a' e' cl))
  (fun i _=>bs.length-(intOf i).toNat)
 case atStart=>exact⟨0,zvT _,rfl,bl,fun j hj=>absurd hj (zvQ _)⟩
 case round=>
  obtain⟨k,hk,rfl,hb,HN⟩:=hrel
  by_cases hlt:k<bs.length
  ·obtain⟨b,o,nv,bd,rfl,Hn,hbl,c0,c1,c2,hnv⟩:=hc.elem hb hlt;have hbk:=hbel k hlt;rw[Hn.out] at hbk;obtain⟨nao,ncap,rfl,hnm,hnc⟩:=hnv;have hnv:zaI lo wr (.slice nao bd.nodes.length ncap) bd.nodes:=⟨nao,ncap,rfl,hnm,hnc⟩;have hba:Below w.heap.size w (wr.alloc (.cells #[.bool bd.bol,.bool bd.eol,.slice nao bd.nodes.length ncap] 115)):=hb.alloc hb.size _;have hcall:=hbk _ nao ncap (hnv.below (w':=wr.alloc (.cells #[.bool bd.bol,.bool bd.eol,.slice nao bd.nodes.length ncap] 115)) ((Below.refl _ _).alloc (zvJ _) _));clear hbk hbel hnc hc hnv;have HB:Hid (zaP (bs.getD k .zero) t a' e' cl=zaP bd t a' e' cl):=by show _=_;rw[Hn.out]
   go_wp2_with fail
   refine hcall.mono ?_;rintro r w2 ⟨q,rfl,hiff,hb2⟩;have bl2:=zaa hba hba.size hb2;cases q
   ·go_wp2
    go_roundw
    case rel=>exact⟨k+1,by omega,by go_num,bl2,fun j hj=>by
     by_cases ej:j=k
     ·subst ej;rw[HB.out,<-hiff];simp
     ·exact HN.out j (by omega)⟩
    case measure=>simp[intOf];omega
   ·go_wp2;go_ret;exact⟨true,rfl,⟨fun _=>⟨Hq.out,k,hlt,by rw[show (a':Int).toNat=a' by omega,show (e':Int).toNat=e' by omega,HB.out];first|exact hiff.1 rfl|exact hiff.1 trivial⟩,fun _=>rfl⟩,bl2⟩
  ·go_wp2;go_ret;refine⟨false,rfl,⟨fun h=>(Bool.false_ne_true h).elim,?_⟩,hb⟩;rintro ⟨-,j,hj,h⟩;rw[show (a':Int).toNat=a' by omega,show (e':Int).toNat=e' by omega] at h;exact absurd h (HN.out j (by omega))
end
section
variable{b:Pt}{w w':World}{L:Word -> Prop}{u:Word}{mx:Int}
open Go.RowKit
def zan(w:World):Value->Pt->Prop
 |v,.set f=>∃mg:Nat,v=.iface 297 (.agg #[.pointer (some ⟨mg,0,none⟩)])/\w.heap[mg]?=some (.cells (zas f) 293 (0,0))
 |v,.seq l r=>∃lv rv,v=.iface 256 (.agg #[lv,rv])/\zan w lv l/\zan w rv r
 |v,.alt l r=>∃lv rv,v=.iface 258 (.agg #[lv,rv])/\zan w lv l/\zan w rv r
 |v,.rep b mn mx=>∃lv,v=.iface 261 (.agg #[lv,.int .i64 mn,.int .i64 mx])/\zan w lv b/\zaM mn mx=true
 |v,.grp b g=>∃lv,v=.iface 264 (.agg #[lv,.int .i64 g])/\zan w lv b
def zaT(w w':World):Prop:=∀(mg:Nat) (f:Nat->Bool),w.heap[mg]?=some (.cells (zas f) 293 (0,0))->w'.heap[mg]?=some (.cells (zas f) 293 (0,0))
theorem zaT.trans{a b c:World}(h:zaT a b)(k:zaT b c):zaT a c:=fun mg f e=>k mg f (h mg f e)
theorem zaT.of(h:Below w.heap.size w w'):zaT w w':=fun mg _ e=>(h.block mg (zuH.1 e).1).trans e
theorem zaT.grown{g:Nat}{cs:Array Value}{t:TypeId}{fr:Nat×Nat}(h:w.grownBy w' (some g))(hg:w.heap[g]?=some (.cells cs t fr))(ht:t≠293):zaT w w':=fun mg f e=>by
 refine(h.block mg (zuH.1 e).1 (fun q=>?_)).trans e;cases q;rw[hg] at e;cases e;exact ht rfl
theorem zan.keep(hk:zaT w w'):∀(p:Pt) (v:Value),zan w v p->zan w' v p
 |.set f,_,⟨mg,h1,h2⟩=>⟨mg,h1,hk mg f h2⟩
 |.seq l r,_,⟨lv,rv,h1,h2,h3⟩=>⟨lv,rv,h1,zan.keep hk l lv h2,zan.keep hk r rv h3⟩
 |.alt l r,_,⟨lv,rv,h1,h2,h3⟩=>⟨lv,rv,h1,zan.keep hk l lv h2,zan.keep hk r rv h3⟩
 |.rep b _ _,_,⟨lv,h1,h2,h3⟩=>⟨lv,h1,zan.keep hk b lv h2,h3⟩
 |.grp b _,_,⟨lv,h1,h2⟩=>⟨lv,h1,zan.keep hk b lv h2⟩
def wPt:Pt->Int
 |.set _=>1
 |.seq l r=>capW (wPt l+wPt r)
 |.alt l r=>capW (wPt l+wPt r)
 |.rep b mn mx=>capW (wPt b*zaV mn mx)
 |.grp b _=>wPt b
theorem Pow.many{M:Word->Prop}(h:∀u,M u->∃j,Pow L j u):∀(k:Nat) (u:Word),Pow M k u->∃j,Pow L j u
 |0,_,hu=>⟨0,hu⟩
 |k+1,_,⟨a,b,e,ha,hb⟩=>by
  obtain⟨i,hi⟩:=h a ha;obtain⟨j,hj⟩:=Pow.many h k b hb;exact⟨i+j,by rw[e];exact hi.add i j hj⟩
theorem zl0(h:L u):Pow L 1 u:=⟨u,[],by simp,h,rfl⟩
theorem ztv(h:Pow L 1 u):L u:=by
 obtain⟨x,y,rfl,hx,hy⟩:=h;cases hy
 simpa using hx
theorem zi5(h:zbS 0 mx=true)(u:Word):In (.rep b 0 mx) u↔∃k:Nat,(mx=-1\/k<=1)/\Pow (In b) k u:=by
 have hm:mx=1\/mx=-1:=by simpa [zbS] using h
 constructor
 ·rintro ⟨k,_,h2,h3⟩;exact⟨k,by omega,h3⟩
 ·rintro ⟨k,h2,h3⟩;exact⟨k,by omega,by omega,h3⟩
theorem zf5{imn imx mn:Int}(h1:zbS imn imx=true)(h2:zbS mn mx=true)(u:Word):In (.rep b 0 (if imx<=mx then imx else mx)) u↔In (.rep (.rep b imn imx) mn mx) u:=by
 have e1:imn=0:=by simp[zbS] at h1;exact h1.1
 have e2:mn=0:=by simp[zbS] at h2;exact h2.1
 subst e1 e2;have hm1:imx=1\/imx=-1:=by simpa [zbS] using h1
 have hm2:mx=1\/mx=-1:=by simpa [zbS] using h2
 rw[zi5 (zgV h1 h2),zi5 h2];have hi:∀u,In (.rep b 0 imx) u↔_:=zi5 h1;constructor
 ·rintro ⟨k,hk,hp⟩
  by_cases hx:imx=-1
  ·exact⟨1,.inr (zvJ _),zl0 ((hi u).2 ⟨k,.inl hx,hp⟩)⟩
  ·have hx1:imx=1:=by omega
   by_cases hx2:mx=-1
   ·refine⟨k,.inl hx2,?_⟩;clear hk
    induction k generalizing u with
    |zero=>exact hp
    |succ k ih=>
     obtain⟨x,y,e,hx',hy⟩:=hp;exact⟨x,y,e,(hi x).2 ⟨1,.inr (zvJ _),zl0 hx'⟩,ih y hy⟩
   ·have hk1:k<=1:=by
     rcases hk with hk|hk
     ·rw[hx1] at hk;split at hk<;>omega
     ·exact hk
    exact⟨1,.inr (zvJ _),zl0 ((hi u).2 ⟨k,.inr hk1,hp⟩)⟩
 ·rintro ⟨k,hk,hp⟩
  by_cases hs:imx=-1\/mx=-1
  ·obtain⟨j,hj⟩:=Pow.many (L:=In b) (fun u hu=>by obtain⟨j,_,hj⟩:=(hi u).1 hu;exact⟨j,hj⟩) k u hp;exact⟨j,.inl (by split<;>omega),hj⟩
  ·have hk1:k<=1:=by omega
   match k,hk1,hp with
   |0,_,hp=>exact⟨0,.inr (by omega),hp⟩
   |1,_,hp=>
    obtain⟨j,hj1,hj⟩:=(hi u).1 (ztv hp);exact⟨j,.inr (by omega),hj⟩
theorem zj6{p q:Pt}(h:∀u,In p u↔In q u)(mn mx:Int)(u:Word):In (.rep p mn mx) u↔In (.rep q mn mx) u:=
 exists_congr fun k=>and_congr_right fun _=>and_congr_right fun _=>Pow.congr h k u
end
variable{u:Word}{p q b:Pt}{i j:Nat}{mx:Int}{P:Nat -> Prop}
def Lg(u:Word)(p:Pt)(i j:Nat):Prop:=i<=j/\j<=u.length/\In p ((u.drop i).take (j-i))
theorem zpL:Lg u p i j↔zbc u (In p) (· = i) j:=
 ⟨fun h=>⟨i,rfl,h⟩,fun⟨_,e,h⟩=>by subst e;exact h⟩
theorem zbH(h:∀w,In p w↔In q w){i j:Nat}:Lg u p i j↔Lg u q i j:=and_congr_right fun _=>and_congr_right fun _=>h _
theorem zpM:Lg u (.seq p q) i j↔∃k,Lg u p i k/\Lg u q k j:=by
 rw[zpL];refine(zgo (L:=In p) (M:=In q) j).trans ?_;constructor
 ·rintro ⟨k,⟨_,rfl,h⟩,h2⟩;exact⟨k,h,h2⟩
 ·rintro ⟨k,h,h2⟩;exact⟨k,⟨i,rfl,h⟩,h2⟩
theorem zpK:Lg u (.alt p q) i j↔Lg u p i j\/Lg u q i j:=by
 constructor
 ·rintro ⟨h1,h2,h|h⟩
  ·exact .inl ⟨h1,h2,h⟩
  ·exact .inr ⟨h1,h2,h⟩
 ·rintro (⟨h1,h2,h⟩|⟨h1,h2,h⟩)
  ·exact⟨h1,h2,.inl h⟩
  ·exact⟨h1,h2,.inr h⟩
def Cp(u:Word)(b:Pt):Nat->Nat->Nat->Prop
 |0,i,j=>i=j
 |k+1,i,j=>∃m,Lg u b i m/\Cp u b k m j
theorem zmy:∀(k i j:Nat),j<=u.length->((i<=j/\Pow (In b) k ((u.drop i).take (j-i)))↔Cp u b k i j)
 |0,i,j,hj=>by
  constructor
  ·rintro ⟨h1,h⟩;have h':(u.drop i).take (j-i)=[]:=h;have hlen:((u.drop i).take (j-i)).length=j-i:=by simp;omega
   rw[h'] at hlen;simp only[zvk] at hlen;show i=j;omega
  ·intro h;have h:i=j:=h;subst h;exact⟨zvJ _,by rw[zvR];rfl⟩
 |k+1,i,j,hj=>by
  have e:=(zgo (u:=u) (L:=In b) (M:=Pow (In b) k) (F:=(· = i)) j);constructor
  ·rintro ⟨h1,h⟩;obtain⟨m,⟨_,rfl,h2⟩,h3,_,h4⟩:=e.1 ⟨i,rfl,h1,hj,h⟩;exact⟨m,h2,(zmy k m j hj).1 ⟨h3,h4⟩⟩
  ·rintro ⟨m,h2,h3⟩;obtain⟨h4,h5⟩:=(zmy k m j hj).2 h3;obtain⟨_,e0,h6,_,h7⟩:=e.2 ⟨m,⟨i,rfl,h2⟩,h4,hj,h5⟩;subst e0;exact⟨h6,h7⟩
theorem zdR{mn:Int}:Lg u (.rep b mn mx) i j↔j<=u.length/\∃k:Nat,mn<=k/\(mx=-1\/(k:Int)<=mx)/\Cp u b k i j:=by
 constructor
 ·rintro ⟨h1,h2,k,h3,h4,h5⟩;exact⟨h2,k,h3,h4,(zmy k i j h2).1 ⟨h1,h5⟩⟩
 ·rintro ⟨h2,k,h3,h4,h5⟩;obtain⟨h1,h6⟩:=(zmy k i j h2).2 h5;exact⟨h1,h2,k,h3,h4,h6⟩
def Gre(P:Nat->Prop)(i j k:Nat):Prop:=i<=k/\k<=j/\P k/\∀m,k<m->m<=j->¬P m
theorem ze4:∀(j:Nat),(∃k,i<=k/\k<=j/\P k)->∃k,Gre P i j k
 |0,⟨k,h1,h2,h3⟩=>⟨k,h1,h2,h3,fun m a b=>by omega⟩
 |j+1,⟨k,h1,h2,h3⟩=>by
  by_cases h:i<=j+1/\P (j+1)
  ·exact⟨j+1,h.1,zvJ _,h.2,fun m a b=>by omega⟩
  ·have hk:k<=j:=by
    rcases zvM j k with a|a
    ·obtain rfl:k=j+1:=by omega
     exact absurd ⟨h1,h3⟩ h
    ·exact a
   obtain⟨m,g1,g2,g3,g4⟩:=ze4 j ⟨k,h1,hk,h3⟩;refine⟨m,g1,by omega,g3,fun x a b hx=>?_⟩;rcases zvM j x with c|c
   ·obtain rfl:x=j+1:=by omega
    exact h ⟨by omega,hx⟩
   ·exact g4 x a c hx
theorem Gre.congr{Q:Nat->Prop}{k:Nat}(h:Gre P i j k)(he:∀m,i<=m->m<=j->(P m↔Q m)):Gre Q i j k:=
 ⟨h.1,h.2.1,(he k h.1 h.2.1).1 h.2.2.1,fun m a b hq=>h.2.2.2 m a b ((he m (by have:=h.1;omega) b).2 hq)⟩
abbrev Up:=Int×Nat×Nat
inductive CpR (L:Nat->Nat->Prop) (R:Nat->Nat->List Up->Prop) (C:Nat->Int->Nat->Nat->Prop):Nat->Int->Nat->Nat->List Up->Prop
 |done (i j:Nat):CpR L R C 0 0 i j []
 |void (i:Nat):CpR L R C 0 (-1) i i []
 |out (mx:Int) (i j:Nat) (h:0<mx) (hn:∀k,i<=k->k<=j->¬(L i k/\C 0 (mx-1) k j)):CpR L R C 0 mx i j []
 |must (mn:Nat) (mx:Int) (i j k:Nat) (l1 l2:List Up) (h:Gre (fun k=>L i k/\C mn (if 0<mx then mx-1 else mx) k j) i j k) (h1:R i k l1) (h2:CpR L R C mn (if 0<mx then mx-1 else mx) k j l2):CpR L R C (mn+1) mx i j (l1++l2)
 |may (mx:Int) (i j k:Nat) (l1 l2:List Up) (hm:0<mx) (h:Gre (fun k=>L i k/\C 0 (mx-1) k j) i j k) (h1:R i k l1) (h2:CpR L R C 0 (mx-1) k j l2):CpR L R C 0 mx i j (l1++l2)
 |more (i j k:Nat) (l1 l2:List Up) (hi:i<j) (h:Gre (fun k=>L i k/\C 0 (-1) k j) (i+1) j k) (h1:R i k l1) (h2:CpR L R C 0 (-1) k j l2):CpR L R C 0 (-1) i j (l1++l2)
def Pl(u:Word):Pt->Nat->Nat->List Up->Prop
 |.set _,_,_,l=>l=[]
 |.grp b g,i,j,l=>∃m,l=(g,i,j)::m/\Pl u b i j m
 |.seq p q,i,j,l=>∃k l1 l2,Gre (fun k=>Lg u p i k/\Lg u q k j) i j k/\Pl u p i k l1/\Pl u q k j l2/\l=l1++l2
 |.alt p q,i,j,l=>(Lg u p i j/\Pl u p i j l)\/(¬Lg u p i j/\Pl u q i j l)
 |.rep b mn mx,i,j,l=>CpR (Lg u b) (Pl u b) (fun mn mx i j=>Lg u (.rep b mn mx) i j) mn.toNat mx i j l
theorem zl8{mn:Nat}(hb:mx=-1\/(mn:Int)+1<=mx):Lg u (.rep b ((mn+1:Nat):Int) mx) i j↔∃k,Lg u b i k/\Lg u (.rep b mn (if 0<mx then mx-1 else mx)) k j:=by
 rw[zdR];constructor
 ·rintro ⟨h2,k,h3,h4,h5⟩;obtain⟨n,rfl⟩:∃n,k=n+1:=⟨k-1,by omega⟩;obtain⟨m,h6,h7⟩:=h5;refine⟨m,h6,zdR.2 ⟨h2,n,by omega,?_,h7⟩⟩;rcases h4 with rfl|h4
  ·left;decide
  ·right;split<;>omega
 ·rintro ⟨k,h1,h⟩;obtain⟨h2,n,h3,h4,h5⟩:=zdR.1 h;refine⟨h2,n+1,by omega,?_,k,h1,h5⟩;rcases hb with rfl|hb
  ·left;rfl
  ·right
   rw[zv3 (by omega)] at h4;omega
theorem ztw(hm:0<mx)(h:Lg u (.rep b 0 mx) i j):i=j\/∃k,Lg u b i k/\Lg u (.rep b 0 (mx-1)) k j:=by
 obtain⟨h2,k,h3,h4,h5⟩:=zdR.1 h;cases k with
 |zero=>exact .inl h5
 |succ n=>
  obtain⟨m,h6,h7⟩:=h5;exact .inr ⟨m,h6,zdR.2 ⟨h2,n,by omega,.inr (by rcases h4 with h4|h4<;>omega),h7⟩⟩
theorem zo3:∀{k i j:Nat},Cp u b k i j->i<j->∃n m,n<k/\i<m/\Lg u b i m/\Cp u b n m j
 |0,i,j,h,hij=>absurd (show i=j from h) (by omega)
 |k+1,i,j,⟨m,h1,h2⟩,hij=>by
  by_cases hm:i<m
  ·exact⟨k,m,by omega,hm,h1,h2⟩
  ·obtain rfl:m=i:=by have:=h1.1;omega
   obtain⟨n,x,a,b,c,d⟩:=zo3 h2 hij;exact⟨n,x,by omega,b,c,d⟩
theorem znd(hij:i<j)(h:Lg u (.rep b 0 (-1)) i j):∃k,i+1<=k/\Lg u b i k/\Lg u (.rep b 0 (-1)) k j:=by
 obtain⟨h2,k,h3,h4,h5⟩:=zdR.1 h;obtain⟨n,m,_,h6,h7,h8⟩:=zo3 h5 hij;exact⟨m,h6,h7,zdR.2 ⟨h2,n,by omega,.inl rfl,h8⟩⟩
theorem zmz(ih:∀i j,Lg u b i j->∃l,Pl u b i j l):∀(mn:Nat) (mx:Int),(mx=-1\/(mn:Int)<=mx)->∀i j,Lg u (.rep b mn mx) i j->∃l,CpR (Lg u b) (Pl u b) (fun mn mx i j=>Lg u (.rep b mn mx) i j) mn mx i j l
 |mn+1,mx,hb,i,j,h=>by
  obtain⟨k0,h1,h2⟩:=(zl8 (by omega)).1 h;obtain⟨k,hk⟩:=ze4 (P:=fun k=>Lg u b i k/\Lg u (.rep b mn (if 0<mx then mx-1 else mx)) k j) (i:=i) j ⟨k0,h1.1,h2.1,h1,h2⟩;obtain⟨l1,e1⟩:=ih i k hk.2.2.1.1;obtain⟨l2,e2⟩:=zmz ih mn (if 0<mx then mx-1 else mx) (by split<;>omega) k j hk.2.2.1.2;exact⟨_,.must mn mx i j k l1 l2 hk e1 e2⟩
 |0,mx,hb,i,j,h=>by
  rcases Int.lt_trichotomy mx 0 with hm|hm|hm
  ·obtain rfl:mx=-1:=by omega
   have:∀(n i:Nat),j-i<=n->Lg u (.rep b ((0:Nat):Int) (-1)) i j->∃l,CpR (Lg u b) (Pl u b) (fun mn mx i j=>Lg u (.rep b mn mx) i j) 0 (-1) i j l:=by
    intro n
    induction n with
    |zero=>
     intro i hn h;obtain rfl:i=j:=by have:=h.1;omega
     exact⟨_,.void i⟩
    |succ n ihn=>
     intro i hn h
     by_cases hij:i<j
     ·obtain⟨k0,h1,h2,h3⟩:=znd hij h;obtain⟨k,hk⟩:=ze4 (P:=fun k=>Lg u b i k/\Lg u (.rep b ((0:Nat):Int) (-1)) k j) (i:=i+1) j ⟨k0,h1,h3.1,h2,h3⟩;obtain⟨l1,e1⟩:=ih i k hk.2.2.1.1;obtain⟨l2,e2⟩:=ihn k (by have:=hk.1;omega) hk.2.2.1.2;exact⟨_,.more i j k l1 l2 hij hk e1 e2⟩
     ·obtain rfl:i=j:=by have:=h.1;omega
      exact⟨_,.void i⟩
   exact this _ i (zvJ _) h
  ·subst hm;exact⟨_,.done i j⟩
  ·obtain⟨n,rfl⟩:∃n:Nat,mx=n:=⟨mx.toNat,by omega⟩;clear hb hm
   induction n generalizing i with
   |zero=>exact⟨_,.done i j⟩
   |succ n ihn=>
    by_cases hn:∀k,i<=k->k<=j->¬(Lg u b i k/\Lg u (.rep b 0 (((n+1:Nat):Int)-1)) k j)
    ·exact⟨_,.out _ i j (by omega) hn⟩
    ·have:∃k,i<=k/\k<=j/\(Lg u b i k/\Lg u (.rep b ((0:Nat):Int) (((n+1:Nat):Int)-1)) k j):=by
      apply Classical.byContradiction
      intro hc;exact hn fun k a b h=>hc ⟨k,a,b,h⟩
     obtain⟨k,hk⟩:=ze4 j this;obtain⟨l1,e1⟩:=ih i k hk.2.2.1.1;have e0:(((n+1:Nat):Int)-1)=(n:Int):=by omega
     obtain⟨l2,e2⟩:=ihn k (by rw[<-e0];exact hk.2.2.1.2);exact⟨_,.may _ i j k l1 l2 (by omega) hk e1 (by rw[e0];exact e2)⟩
def OkP:Pt->Prop
 |.set _=>True
 |.seq p q=>OkP p/\OkP q
 |.alt p q=>OkP p/\OkP q
 |.rep b mn mx=>OkP b/\0<=mn/\(mx=-1\/mn<=mx)
 |.grp b _=>OkP b
theorem zc4:∀(p:Pt),OkP p->∀i j,Lg u p i j->∃l,Pl u p i j l
 |.set _,_,_,_,_=>⟨[],rfl⟩
 |.grp b g,ho,i,j,h=>by
  obtain⟨l,e⟩:=zc4 b ho i j h;exact⟨_,l,rfl,e⟩
 |.seq p q,ho,i,j,h=>by
  obtain⟨k0,h1,h2⟩:=zpM.1 h;obtain⟨k,hk⟩:=ze4 (P:=fun k=>Lg u p i k/\Lg u q k j) (i:=i) j ⟨k0,h1.1,h2.1,h1,h2⟩;obtain⟨l1,e1⟩:=zc4 p ho.1 i k hk.2.2.1.1;obtain⟨l2,e2⟩:=zc4 q ho.2 k j hk.2.2.1.2;exact⟨_,k,l1,l2,hk,e1,e2,rfl⟩
 |.alt p q,ho,i,j,h=>by
  by_cases hp:Lg u p i j
  ·obtain⟨l,e⟩:=zc4 p ho.1 i j hp;exact⟨l,.inl ⟨hp,e⟩⟩
  ·obtain⟨l,e⟩:=zc4 q ho.2 i j ((zpK.1 h).resolve_left hp);exact⟨l,.inr ⟨hp,e⟩⟩
 |.rep b mn mx,ho,i,j,h=>by
  obtain⟨h1,h2,h3⟩:=ho;obtain⟨m,rfl⟩:∃m:Nat,mn=m:=⟨mn.toNat,by omega⟩;exact zmz (zc4 b h1) m mx h3 i j h
end Go.Proofs.YtdimhpfiieepiaaGreatDoor
