import Derived.Test.YtdimhpfiieepiaaGreatDoorC10
import Derived.Deep.RegionHeld3
namespace Go.Proofs.YtdimhpfiieepiaaGreatDoor
open Proofs.Tryz
open Option renaming none->za,some->zb
open Value renaming int->zc,slice->zd,agg->zh
open RowKit renaming Below->ze
open Obj renaming cells->zf
open Go renaming World->zg,Value->zi,Calls->zj
set_option maxHeartbeats 4000000
set_option maxRecDepth 100000
open Go.RowKit
section
attribute [local go_sem ↓] wp_at_zero wp_at_succ
section
variable {w W W':zg}{a0 a1 a2 a3 lv rv:zi}{gl gr n:Nat}
def jy(w:zg)(a0 a1 a2 a3:zi)(n0 n1 n2 n3 n4:zi)(gl gr n:Nat)(lv rv:zi)(W:zg):Prop:=
 ze w.heap.size w W/\w.heap.size+1<W.heap.size/\W.cell? ⟨w.heap.size,0,za⟩=zb a0/\W.cell? ⟨w.heap.size,1,za⟩=zb a1/\W.cell? ⟨w.heap.size,2,za⟩=zb a2/\W.cell? ⟨w.heap.size,3,za⟩=zb a3/\
  W.cell? ⟨w.heap.size+1,0,za⟩=zb n0/\W.cell? ⟨w.heap.size+1,1,za⟩=zb n1/\W.cell? ⟨w.heap.size+1,2,za⟩=zb n2/\W.cell? ⟨w.heap.size+1,3,za⟩=zb n3/\W.cell? ⟨w.heap.size+1,4,za⟩=zb n4/\
  W.cell? ⟨gl,n,za⟩=zb lv/\W.cell? ⟨gr,n,za⟩=zb rv/\gl<w.heap.size/\gr<w.heap.size
theorem jy.call{n0 n1 n2 n3 n4:zi}(h:jy w a0 a1 a2 a3 n0 n1 n2 n3 n4 gl gr n lv rv W)(hb:ze W.heap.size W W'):jy w a0 a1 a2 a3 n0 n1 n2 n3 n4 gl gr n lv rv W':=by
 obtain⟨h1,h2,c0,c1,c2,c3,d0,d1,d2,d3,d4,l,r,lt,rt⟩:=h;have hc:∀b o,b<W.heap.size->W'.cell? ⟨b,o,za⟩=W.cell? ⟨b,o,za⟩:=λb o hl=>hb.cell (p:=⟨b,o,za⟩) hl
 have hz:=h1.size;exact⟨aq h1 h1.size hb,bA h2 hb.size,(hc _ _ (by omega)).trans c0,(hc _ _ (by omega)).trans c1,(hc _ _ (by omega)).trans c2,(hc _ _ (by omega)).trans c3,(hc _ _ (by omega)).trans d0,(hc _ _ (by omega)).trans d1,(hc _ _ (by omega)).trans d2,(hc _ _ (by omega)).trans d3,(hc _ _ (by omega)).trans d4,(hc _ _ (by omega)).trans l,(hc _ _ (by omega)).trans r,lt,rt⟩
theorem jy.new(w:zg)(a0 a1 a2 a3 n0 n1 n2 n3 n4:zi)(t1 t2:TypeId){gl gr n:Nat}{lv rv:zi}(lt:gl<w.heap.size)(rt:gr<w.heap.size)(l:w.cell? ⟨gl,n,za⟩=zb lv)(r:w.cell? ⟨gr,n,za⟩=zb rv):
  jy w a0 a1 a2 a3 n0 n1 n2 n3 n4 gl gr n lv rv ((w.alloc (zf #[a0,a1,a2,a3] t1)).alloc (zf #[n0,n1,n2,n3,n4] t2)).drew:=by
 have k1:=cX (ob:=zf #[n0,n1,n2,n3,n4] t2) (aI w (zf #[a0,a1,a2,a3] t1));have k2:((w.alloc (zf #[a0,a1,a2,a3] t1)).alloc (zf #[n0,n1,n2,n3,n4] t2)).heap[w.heap.size+1]?=zb (zf #[n0,n1,n2,n3,n4] t2):=by
  have h:=aI (w.alloc (zf #[a0,a1,a2,a3] t1)) (zf #[n0,n1,n2,n3,n4] t2);rwa[World.size_alloc]at h
 obtain⟨p0,p1,p2,p3⟩:=oF k1;obtain⟨q0,q1,q2,q3,q4⟩:=FU k2;have hb:=((Below.refl w.heap.size w).alloc (aj _) (zf #[a0,a1,a2,a3] t1)).alloc (by simp) (zf #[n0,n1,n2,n3,n4] t2);exact⟨hb.drew,by simp,p0,p1,p2,p3,q0,q1,q2,q3,q4,(hb.cell (p:=⟨gl,n,za⟩) lt).trans l,(hb.cell (p:=⟨gr,n,za⟩) rt).trans r,lt,rt⟩
theorem FZ(lt:gl<w.heap.size)(rt:gr<w.heap.size)
  (h:ze w.heap.size w W/\w.heap.size+1<W.heap.size/\W.cell? ⟨w.heap.size,0,za⟩=zb a0/\W.cell? ⟨w.heap.size,1,za⟩=zb a1/\W.cell? ⟨w.heap.size,2,za⟩=zb a2/\W.cell? ⟨w.heap.size,3,za⟩=zb a3/\W.cell? ⟨gl,n,za⟩=zb lv/\W.cell? ⟨gr,n,za⟩=zb rv) (hb:ze W.heap.size W W'):
  ze w.heap.size w W'/\w.heap.size+1<W'.heap.size/\W'.cell? ⟨w.heap.size,0,za⟩=zb a0/\W'.cell? ⟨w.heap.size,1,za⟩=zb a1/\W'.cell? ⟨w.heap.size,2,za⟩=zb a2/\W'.cell? ⟨w.heap.size,3,za⟩=zb a3/\W'.cell? ⟨gl,n,za⟩=zb lv/\W'.cell? ⟨gr,n,za⟩=zb rv:=by
 obtain⟨h1,h2,c0,c1,c2,c3,l,r⟩:=h;have hc:∀b o,b<W.heap.size->W'.cell? ⟨b,o,za⟩=W.cell? ⟨b,o,za⟩:=λb o hl=>hb.cell (p:=⟨b,o,za⟩) hl
 have hz:=h1.size;exact⟨aq h1 h1.size hb,bA h2 hb.size,(hc _ _ (by omega)).trans c0,(hc _ _ (by omega)).trans c1,(hc _ _ (by omega)).trans c2,(hc _ _ (by omega)).trans c3,(hc _ _ (by omega)).trans l,(hc _ _ (by omega)).trans r⟩
theorem zoK(ns:List aL)(n x:Nat)(hn:n<ns.length)(hk:bO ns n=5)(hT:a8 ns n=.aT (a8 ns x) (ns.getD n .zero).group)(hL:lm ns n=x)(hX:kN ns x):kN ns n:=by
 intro w ao c gl cl gr cr t g cap m S F aD hS tA hF ht;rw[hT];obtain⟨iD,fB,hv,Bo,hc⟩:=aD.nodes;cases hv;obtain⟨b,o,sv,nd,rfl,Hn,aZ,c0,c1,c2,c3,c4,dr⟩:=hc.elem (Below.refl _ _) hn;have db:nd.kind=5:=by rw[<-hk];unfold bO;rw[Hn.out]
 rw[db]at c0;obtain⟨bZ,cd,rfl,hsm,jJ⟩:=dr;have dJ:=λ(W:zg) (hb:ze w.heap.size w W)=>hX W (zb ⟨b,o,za⟩) c gl cl gr cr t g cap m S F (aD.below hb) (hS.below hb) tA hF ht
 have l0:=aD.left n hn;rw[hL]at l0;have r0:=aD.right n hn;obtain⟨ri,xM⟩:∃ri,oD ns n=ri:=⟨_,rfl⟩;rw[xM]at r0;have hlt:=aD.zG;have hrt:=aD.zH;clear hk hT db hc jJ aD hX hF xM;have da:(0:Int)<=(n:Int):=by omega
 have cO:(n:Int)<(ns.length:Int):=by omega
 have H0:=jy.new w (zd (zb ⟨b,o,za⟩) ns.length c) (zd (zb ⟨gl,0,za⟩) ns.length cl) (zd (zb ⟨gr,0,za⟩) ns.length cr) (.string t) (zc .i64 5) (.slice bZ nd.set.length cd) (zc .i64 nd.min) (zc .i64 nd.max) (zc .i64 nd.group) 119 149 hlt hrt l0 r0;have du:=H0.1
 go_enter func90,ntmps90
 go_wp2
 go_region_held3 (λw'=>ze w.heap.size w w'/\w.heap.size+1<w'.heap.size/\w'.cell? ⟨w.heap.size,0,za⟩=zb (zd (zb ⟨b,o,za⟩) ns.length c)/\w'.cell? ⟨w.heap.size,1,za⟩=zb (zd (zb ⟨gl,0,za⟩) ns.length cl)/\w'.cell? ⟨w.heap.size,2,za⟩=zb (zd (zb ⟨gr,0,za⟩) ns.length cr)/\w'.cell? ⟨w.heap.size,3,za⟩=zb (.string t)/\w'.cell? ⟨w.heap.size+1,0,za⟩=zb (zc .i64 5)/\w'.cell? ⟨w.heap.size+1,1,za⟩=zb (.slice bZ nd.set.length cd)/\w'.cell? ⟨w.heap.size+1,2,za⟩=zb (zc .i64 nd.min)/\w'.cell? ⟨w.heap.size+1,3,za⟩=zb (zc .i64 nd.max)/\w'.cell? ⟨w.heap.size+1,4,za⟩=zb (zc .i64 nd.group)/\w'.cell? ⟨gl,n,za⟩=zb (zc .i64 x)/\w'.cell? ⟨gr,n,za⟩=zb (zc .i64 ri)/\gl<w.heap.size/\gr<w.heap.size) ((first|exact jy.call (show jy w (zd (zb ⟨b,o,za⟩) ns.length c) (zd (zb ⟨gl,0,za⟩) ns.length cl) (zd (zb ⟨gr,0,za⟩) ns.length cr) (.string t) (zc .i64 5) (.slice bZ nd.set.length cd) (zc .i64 nd.min) (zc .i64 nd.max) (zc .i64 nd.group) gl gr n (zc .i64 x) (zc .i64 ri) _ from by assumption) ae|go_keep)) ((go_at_call 90;refine(dJ _ (by first|exact H0.1|exact(‹ze w.heap.size w _/\_›).1)).mono ?_;rintro e w2 ⟨g2,c2,S2,rfl,ku,eZ,cV,ae⟩))
 all_goals
  have jW:=‹ze w.heap.size w _/\_›;go_wp2;refine bh (v:=zd (zb ⟨g2,0,za⟩) m c2) (by simp[results,results90,go_sem]) rfl ⟨g2,c2,S2,rfl,ku,eZ,cV,jW.1⟩
theorem zoL(ns:List aL)(n x mn:Nat)(hn:n<ns.length)(hk:bO ns n=4)(hT:a8 ns n=.az (a8 ns x) mn (ns.getD n .zero).max)(hL:lm ns n=x)(hX:kN ns x)(dw:(ns.getD n .zero).min=mn)(dG:mn<=255)(we:(ns.getD n .zero).max=-1\/((mn:Int)<=(ns.getD n .zero).max/\(ns.getD n .zero).max<=255)):kN ns n:=by
 intro w ao c gl cl gr cr t g cap m S F aD hS tA hF ht;rw[hT];obtain⟨iD,fB,hv,Bo,hc⟩:=aD.nodes;cases hv;obtain⟨b,o,sv,nd,rfl,Hn,aZ,c0,c1,c2,c3,c4,dr⟩:=hc.elem (Below.refl _ _) hn;have db:nd.kind=4:=by rw[<-hk];unfold bO;rw[Hn.out]
 rw[db]at c0;obtain⟨bZ,cd,rfl,hsm,jJ⟩:=dr;rw[Hn.out]at dw we ⊢;rw[dw]at c2;have dJ:=λ(W:zg) (hb:ze w.heap.size w W)=>zjw ns x hX W (zb ⟨b,o,za⟩) c gl cl gr cr t g cap m S F mn nd.max (aD.below hb) (hS.below hb) tA hF ht dG we
 have l0:=aD.left n hn;rw[hL]at l0;have r0:=aD.right n hn;obtain⟨ri,xM⟩:∃ri,oD ns n=ri:=⟨_,rfl⟩;rw[xM]at r0;have hlt:=aD.zG;have hrt:=aD.zH;clear hk hT db hc jJ aD hX hF xM dw dG we;have da:(0:Int)<=(n:Int):=by omega
 have cO:(n:Int)<(ns.length:Int):=by omega
 have H0:=jy.new w (zd (zb ⟨b,o,za⟩) ns.length c) (zd (zb ⟨gl,0,za⟩) ns.length cl) (zd (zb ⟨gr,0,za⟩) ns.length cr) (.string t) (zc .i64 4) (.slice bZ nd.set.length cd) (zc .i64 (mn:Nat)) (zc .i64 nd.max) (zc .i64 nd.group) 119 149 hlt hrt l0 r0;have du:=H0.1
 go_enter func90,ntmps90
 go_wp2
 go_region_held3 (λw'=>ze w.heap.size w w'/\w.heap.size+1<w'.heap.size/\w'.cell? ⟨w.heap.size,0,za⟩=zb (zd (zb ⟨b,o,za⟩) ns.length c)/\w'.cell? ⟨w.heap.size,1,za⟩=zb (zd (zb ⟨gl,0,za⟩) ns.length cl)/\w'.cell? ⟨w.heap.size,2,za⟩=zb (zd (zb ⟨gr,0,za⟩) ns.length cr)/\w'.cell? ⟨w.heap.size,3,za⟩=zb (.string t)/\w'.cell? ⟨w.heap.size+1,0,za⟩=zb (zc .i64 4)/\w'.cell? ⟨w.heap.size+1,1,za⟩=zb (.slice bZ nd.set.length cd)/\w'.cell? ⟨w.heap.size+1,2,za⟩=zb (zc .i64 (mn:Nat))/\w'.cell? ⟨w.heap.size+1,3,za⟩=zb (zc .i64 nd.max)/\w'.cell? ⟨w.heap.size+1,4,za⟩=zb (zc .i64 nd.group)/\w'.cell? ⟨gl,n,za⟩=zb (zc .i64 x)/\w'.cell? ⟨gr,n,za⟩=zb (zc .i64 ri)/\gl<w.heap.size/\gr<w.heap.size) ((first|exact jy.call (show jy w (zd (zb ⟨b,o,za⟩) ns.length c) (zd (zb ⟨gl,0,za⟩) ns.length cl) (zd (zb ⟨gr,0,za⟩) ns.length cr) (.string t) (zc .i64 4) (.slice bZ nd.set.length cd) (zc .i64 (mn:Nat)) (zc .i64 nd.max) (zc .i64 nd.group) gl gr n (zc .i64 x) (zc .i64 ri) _ from by assumption) ae|go_keep)) ((go_at_call 114;refine(dJ _ (by first|exact du|exact(‹ze w.heap.size w _/\_›).1)).mono ?_;rintro e w2 ⟨g2,c2,S2,rfl,ku,eZ,cV,ae⟩))
 all_goals
  have jW:=‹ze w.heap.size w _/\_›;go_wp2;refine bh (v:=zd (zb ⟨g2,0,za⟩) m c2) (by simp[results,results90,go_sem]) rfl ⟨g2,c2,S2,rfl,ku,eZ,cV,jW.1⟩
theorem zoM(ns:List aL)(n x y:Nat)(hn:n<ns.length)(hk:bO ns n=2)(hT:a8 ns n=.seq (a8 ns x) (a8 ns y))(hL:lm ns n=x)(hR:oD ns n=y)(hX:kN ns x)(hY:kN ns y):kN ns n:=by
 intro w ao c gl cl gr cr t g cap m S F aD hS tA hF ht;rw[hT];obtain⟨iD,fB,hv,Bo,hc⟩:=aD.nodes;cases hv;obtain⟨b,o,sv,nd,rfl,Hn,aZ,c0,c1,c2,c3,c4,dr⟩:=hc.elem (Below.refl _ _) hn;have db:nd.kind=2:=by rw[<-hk];unfold bO;rw[Hn.out]
 rw[db]at c0;obtain⟨bZ,cd,rfl,hsm,jJ⟩:=dr;have dJ:=λ(W:zg) (hb:ze w.heap.size w W)=>hX W (zb ⟨b,o,za⟩) c gl cl gr cr t g cap m S F (aD.below hb) (hS.below hb) tA hF ht
 have uG:=λ(W:zg) (hb:ze w.heap.size w W) (g cap:Nat) (C:List Bool) (P:Nat->Prop) (h1:oG W g C) (h2:C.length=m) (h3:lP t.size C P)=>hY W (zb ⟨b,o,za⟩) c gl cl gr cr t g cap m C P (aD.below hb) h1 h2 h3 ht
 have l0:=aD.left n hn;rw[hL]at l0;have r0:=aD.right n hn;rw[hR]at r0;have hlt:=aD.zG;have hrt:=aD.zH;clear hk hT db hc jJ aD hX hY hF;have da:(0:Int)<=(n:Int):=by omega
 have cO:(n:Int)<(ns.length:Int):=by omega
 have H0:=jy.new w (zd (zb ⟨b,o,za⟩) ns.length c) (zd (zb ⟨gl,0,za⟩) ns.length cl) (zd (zb ⟨gr,0,za⟩) ns.length cr) (.string t) (zc .i64 2) (.slice bZ nd.set.length cd) (zc .i64 nd.min) (zc .i64 nd.max) (zc .i64 nd.group) 119 149 hlt hrt l0 r0;have du:=H0.1
 go_enter func90,ntmps90
 go_wp2
 go_region_held3 (λw'=>ze w.heap.size w w'/\w.heap.size+1<w'.heap.size/\w'.cell? ⟨w.heap.size,0,za⟩=zb (zd (zb ⟨b,o,za⟩) ns.length c)/\w'.cell? ⟨w.heap.size,1,za⟩=zb (zd (zb ⟨gl,0,za⟩) ns.length cl)/\w'.cell? ⟨w.heap.size,2,za⟩=zb (zd (zb ⟨gr,0,za⟩) ns.length cr)/\w'.cell? ⟨w.heap.size,3,za⟩=zb (.string t)/\w'.cell? ⟨gl,n,za⟩=zb (zc .i64 x)/\w'.cell? ⟨gr,n,za⟩=zb (zc .i64 y)) ((first|exact FZ hlt hrt (by assumption) ae|exact FZ hlt hrt (by assumption) aG|go_keep)) ((first|(have hgo:=ku;go_at_call 90;refine(uG _ (by first|exact du|exact(‹ze w.heap.size w _/\_›).1) g2 c2 S2 _ hgo eZ cV).mono ?_;rintro e w3 ⟨g3,c3,S3,rfl,tx,Dd,l9,aG⟩)|(go_at_call 90;refine(dJ _ (by first|exact du|exact(‹ze w.heap.size w _/\_›).1)).mono ?_;rintro e w2 ⟨g2,c2,S2,rfl,ku,eZ,cV,ae⟩)))
 all_goals
  have jW:=‹ze w.heap.size w _/\_›;go_wp2;refine bh (v:=zd (zb ⟨g3,0,za⟩) m c3) (by simp[results,results90,go_sem]) rfl ⟨g3,c3,S3,rfl,tx,Dd,l9.congr λj=>(QL j).symm,jW.1⟩
theorem zoJ(ns:List aL)(n x y:Nat)(hn:n<ns.length)(hk:bO ns n=3)(hT:a8 ns n=.aN (a8 ns x) (a8 ns y))(hL:lm ns n=x)(hR:oD ns n=y)(hX:kN ns x)(hY:kN ns y):kN ns n:=by
 intro w ao c gl cl gr cr t g cap m S F aD hS tA hF ht;rw[hT];obtain⟨iD,fB,hv,Bo,hc⟩:=aD.nodes;cases hv;obtain⟨b,o,sv,nd,rfl,Hn,aZ,c0,c1,c2,c3,c4,dr⟩:=hc.elem (Below.refl _ _) hn;have db:nd.kind=3:=by rw[<-hk];unfold bO;rw[Hn.out]
 rw[db]at c0;obtain⟨bZ,cd,rfl,hsm,jJ⟩:=dr;have dJ:=λ(z:Nat) (W:zg) (hb:ze w.heap.size w W) (hz:z=x)=>(hz ▸ hX:kN ns z) W (zb ⟨b,o,za⟩) c gl cl gr cr t g cap m S F (aD.below hb) (hS.below hb) tA hF ht
 have uG:=λ(z:Nat) (W:zg) (hb:ze w.heap.size w W) (hz:z=y)=>(hz ▸ hY:kN ns z) W (zb ⟨b,o,za⟩) c gl cl gr cr t g cap m S F (aD.below hb) (hS.below hb) tA hF ht
 have Bn:m<=1048576:=by have:=hF.len;omega
 have l0:=aD.left n hn;rw[hL]at l0;have r0:=aD.right n hn;rw[hR]at r0;have hlt:=aD.zG;have hrt:=aD.zH;clear hk hT db hc jJ aD hX hY hF;have da:(0:Int)<=(n:Int):=by omega
 have cO:(n:Int)<(ns.length:Int):=by omega
 have H0:=jy.new w (zd (zb ⟨b,o,za⟩) ns.length c) (zd (zb ⟨gl,0,za⟩) ns.length cl) (zd (zb ⟨gr,0,za⟩) ns.length cr) (.string t) (zc .i64 3) (.slice bZ nd.set.length cd) (zc .i64 nd.min) (zc .i64 nd.max) (zc .i64 nd.group) 119 149 hlt hrt l0 r0;have du:=H0.1
 go_enter func90,ntmps90
 go_wp2
 go_region_held3 (λw'=>ze w.heap.size w w'/\w.heap.size+1<w'.heap.size/\w'.cell? ⟨w.heap.size,0,za⟩=zb (zd (zb ⟨b,o,za⟩) ns.length c)/\w'.cell? ⟨w.heap.size,1,za⟩=zb (zd (zb ⟨gl,0,za⟩) ns.length cl)/\w'.cell? ⟨w.heap.size,2,za⟩=zb (zd (zb ⟨gr,0,za⟩) ns.length cr)/\w'.cell? ⟨w.heap.size,3,za⟩=zb (.string t)/\w'.cell? ⟨gl,n,za⟩=zb (zc .i64 x)/\w'.cell? ⟨gr,n,za⟩=zb (zc .i64 y)) ((first|exact FZ hlt hrt (by assumption) ae|exact FZ hlt hrt (by assumption) aG|exact FZ hlt hrt (by assumption) bE|go_keep)) ((first|(go_at_call 113;refine(zt2 m S2 S3 g2 g3 c2 c3 _ (by first|exact ku.below aG|exact ku) (by first|exact tx|exact tx.below ae) eZ Dd Bn).mono ?_;rintro e w4 ⟨rfl,hO,bE⟩)|(go_at_call 90;refine(dJ _ _ (by first|exact du|exact(‹ze w.heap.size w _/\_›).1) ?hz).mono ?_;(case hz=>exact rfl);rintro e w2 ⟨g2,c2,S2,rfl,ku,eZ,cV,ae⟩)|(go_at_call 90;refine(uG _ _ (by first|exact du|exact(‹ze w.heap.size w _/\_›).1) ?hz).mono ?_;(case hz=>exact rfl);rintro e w3 ⟨g3,c3,S3,rfl,tx,Dd,l9,aG⟩)))
 all_goals
  have jW:=‹ze w.heap.size w _/\_›;go_wp2;refine bh (v:=zd (zb ⟨_,0,za⟩) m m) (by simp[results,results90,go_sem]) rfl ⟨_,m,u9 S2 S3,rfl,hO,by rw[JF];exact eZ,(zmh cV l9).congr λj=>(zqT j).symm,jW.1⟩
theorem NB(ns:List aL)(ha:∀i,i<ns.length->bC (bO ns i)<=(aK ns i).length)(hb:ns.all aY=true):∀n,n<ns.length->kN ns n:=by
 intro n
 induction n using Nat.strongRecOn with
 |ind n ih=>
  intro hn;have jI:aY (ns.getD n .zero)=true:=iQ.1 hb (ns.getD n .zero) (by
   rw[bP,dh hn];exact kg _)
  have eu:=ha n hn;have cC:bO ns n=(ns.getD n .zero).kind:=rfl
  by_cases h1:bO ns n=1
  ·refine zoN ns n hn h1 ?_;unfold a8 iG;rw[aC (by rw[<-cC];exact h1)]
  by_cases h2:bO ns n=2
  ·obtain⟨x,y,hL,hR,hx,hy,hT⟩:=Jr (ns:=ns) (k:=n) (by rw[h2];rfl) (by rw[h2]at eu;exact eu);refine zoM ns n x y hn h2 ?_ hL hR (ih x hx (by omega)) (ih y hy (by omega));rw[hT];unfold iG;rw[ak (by rw[<-cC];exact h1),aC (by rw[<-cC];exact h2)]
   rfl
  by_cases h3:bO ns n=3
  ·obtain⟨x,y,hL,hR,hx,hy,hT⟩:=Jr (ns:=ns) (k:=n) (by rw[h3];rfl) (by rw[h3]at eu;exact eu);refine zoJ ns n x y hn h3 ?_ hL hR (ih x hx (by omega)) (ih y hy (by omega));rw[hT];unfold iG;rw[ak (by rw[<-cC];exact h1),ak (by rw[<-cC];exact h2),aC (by rw[<-cC];exact h3)]
   rfl
  by_cases h4:bO ns n=4
  ·obtain⟨x,hL,hx,hT⟩:=Jq (ns:=ns) (k:=n) (by rw[h4];rfl) (by rw[h4]at eu;exact eu);have dV:fj (ns.getD n .zero).min (ns.getD n .zero).max=true:=by
    unfold aY at jI;rw[ak (by rw[<-cC];exact h1),ak (by rw[<-cC];exact λh=>h.elim h2 h3),aC (by rw[<-cC];exact h4)]at jI;simp only[de]at jI;exact jI.1.2
   simp[fj]at dV;refine zoL ns n x (ns.getD n .zero).min.toNat hn h4 ?_ hL (ih x hx (by omega)) (by simp only[bP];omega) (by simp only[bP];omega) (by simp only[bP];omega);rw[hT];unfold iG;rw[ak (by rw[<-cC];exact h1),ak (by rw[<-cC];exact h2),ak (by rw[<-cC];exact h3),aC (by rw[<-cC];exact h4)];have:(((ns.getD n .zero).min.toNat:Nat):Int)=(ns.getD n .zero).min:=by simp only[bP];omega
   rw[this]
   rfl
  have h5:bO ns n=5:=by
   by_cases h5:bO ns n=5
   ·exact h5
   ·exfalso
    unfold aY at jI;rw[ak (by rw[<-cC];exact h1),ak (by rw[<-cC];exact λh=>h.elim h2 h3),ak (by rw[<-cC];exact h4),ak (by rw[<-cC];exact h5)]at jI;cases jI
  obtain⟨x,hL,hx,hT⟩:=Jq (ns:=ns) (k:=n) (by rw[h5];rfl) (by rw[h5]at eu;exact eu);refine zoK ns n x hn h5 ?_ hL (ih x hx (by omega));rw[hT];unfold iG;rw[ak (by rw[<-cC];exact h1),ak (by rw[<-cC];exact h2),ak (by rw[<-cC];exact h3),ak (by rw[<-cC];exact h4)]
  rfl
end
def BO(aX bm:Bool)(n:Nat)(a e:Nat)(cl:Bool):Bool:=!(aX && !(a==0))&&(!bm || (cl&&e==n))
theorem zpT(aX bm cl:Bool)(ao:Option Addr)(k c:Nat)(t:ByteArray)(a e:Nat)(w:zg):
  zj prog 89 #[zh #[.bool aX,.bool bm,.slice ao k c],.string t,zc .i64 a,zc .i64 e,.bool cl] w λr w'=>r=.returned (.bool (BO aX bm t.size a e cl))/\ze w.heap.size w w':=by
 have hb:ze w.heap.size w (w.alloc (zf #[.bool aX,.bool bm,.slice ao k c] 115)):=aw;have h0:((a:Int) != 0)=!(a==0):=by
  by_cases h:a=0
  ·subst h;rfl
  ·have:((a:Int) != 0)=true:=by simp;omega
   rw[this];simp;omega
 have h1:((e:Int)==(t.size:Int))=(e==t.size):=by
  by_cases h:e=t.size
  ·subst h;simp
  ·have:((e:Int)==(t.size:Int))=false:=by simp;omega
   rw[this];simp;omega
 have Hp:Hid (BO aX bm t.size a e cl=(!(aX && !(a==0))&&(!bm || (cl&&e==t.size)))):=rfl;cases hz:(a==0)<;>cases he:(e==t.size)<;>cases aX<;>cases bm<;>cases cl
 all_goals
  rw[hz]at h0 Hp;rw[he]at h1 Hp
  go_enter func89,ntmps89
  go_wp2;go_ret;exact⟨bz Hp.out.symm,hb⟩
theorem zmF{lo:Nat}(aX bm:Bool)(ao:Option Addr)(c:Nat)(ns:List aL)(t:ByteArray)(w:zg)(hs:dZ lo w (.slice ao ns.length c) ns)(hn:ns.length<=1048576)(hk:jP ns=true):
  zj prog 67 #[zh #[.bool aX,.bool bm,.slice ao ns.length c],.string t] w λr w'=>ze w.heap.size w w'/\∃gl cl gr cr,r=.returned (zh #[.slice ao ns.length c,zd (zb ⟨gl,0,za⟩) ns.length cl,zd (zb ⟨gr,0,za⟩) ns.length cr,.string t])/\vx w' ns (.slice ao ns.length c) gl gr:=by
 have hb:ze w.heap.size w ((w.alloc (zf #[.bool aX,.bool bm,.slice ao ns.length c] 115)).alloc (zf #[zd za 0 0,zd za 0 0,zd za 0 0,.string ⟨#[]⟩] 119)):=(aw).alloc (by simp) _;have zzm:=λ(W:zg) (hb:ze w.heap.size w W)=>YB _ ns W (hs.below hb) hn
 go_enter func67,ntmps67
 go_wp2_with fail
 refine(zzm _ hb).mono ?_;rintro e w1 ⟨ag,h|⟨-,gl,cl,gr,cr,rfl,ol,V7,-⟩⟩
 ·rw[hk]at h;cases h.1
 have k0:((w.alloc (zf #[.bool aX,.bool bm,.slice ao ns.length c] 115)).alloc (zf #[zd za 0 0,zd za 0 0,zd za 0 0,.string ⟨#[]⟩] 119)).heap[w.heap.size]?=zb (zf #[.bool aX,.bool bm,.slice ao ns.length c] 115 (0,0)):=cX (aI _ _);have k1:((w.alloc (zf #[.bool aX,.bool bm,.slice ao ns.length c] 115)).alloc (zf #[zd za 0 0,zd za 0 0,zd za 0 0,.string ⟨#[]⟩] 119)).heap[w.heap.size+1]?=zb (zf #[zd za 0 0,zd za 0 0,zd za 0 0,.string ⟨#[]⟩] 119 (0,0)):=by have:=aI (w.alloc (zf #[.bool aX,.bool bm,.slice ao ns.length c] 115)) (zf #[zd za 0 0,zd za 0 0,zd za 0 0,.string ⟨#[]⟩] 119);simpa using this
 have p0:=nu k0 ag;have p1:=nu k1 ag;have q0:=(aM _ _ _ _ _ _ p0:w1.cell? ⟨w.heap.size,2,za⟩=_);simp at q0;obtain⟨d0,d1,d2,d3⟩:=oF p1;have f0:w1.frozen? ⟨w.heap.size+1,0,za⟩=false:=by simp[World.frozen?,p1]
 have f1:w1.frozen? ⟨w.heap.size+1,1,za⟩=false:=by simp[World.frozen?,p1]
 have f2:w1.frozen? ⟨w.heap.size+1,2,za⟩=false:=by simp[World.frozen?,p1]
 have f3:w1.frozen? ⟨w.heap.size+1,3,za⟩=false:=by simp[World.frozen?,p1]
 go_wp2;have cN:ze w.heap.size w ((((w1.setCell ⟨w.heap.size+1,0,za⟩ (.slice ao ns.length c)).setCell ⟨w.heap.size+1,1,za⟩ (zd (zb ⟨gl,0,za⟩) ns.length cl)).setCell ⟨w.heap.size+1,2,za⟩ (zd (zb ⟨gr,0,za⟩) ns.length cr)).setCell ⟨w.heap.size+1,3,za⟩ (.string t)):=by
  iterate 4 refine Below.setCell ?_ (by simp) _
  exact aq hb hb.size ag
 have fD:=(qn ol).1;have cJ:=(qn V7).1;simp only[World.size_alloc]at fD cJ;have hcell:∀g o,g≠w.heap.size+1->((((w1.setCell ⟨w.heap.size+1,0,za⟩ (.slice ao ns.length c)).setCell ⟨w.heap.size+1,1,za⟩ (zd (zb ⟨gl,0,za⟩) ns.length cl)).setCell ⟨w.heap.size+1,2,za⟩ (zd (zb ⟨gr,0,za⟩) ns.length cr)).setCell ⟨w.heap.size+1,3,za⟩ (.string t)).cell? ⟨g,o,za⟩=w1.cell? ⟨g,o,za⟩:=λg o hg=>
  World.cell?_of_block (w:=w1) (by rw[Below.heap_setCell _ _ _ _ hg,Below.heap_setCell _ _ _ _ hg,Below.heap_setCell _ _ _ _ hg,Below.heap_setCell _ _ _ _ hg])
 refine bh (v:=zh #[.slice ao ns.length c,zd (zb ⟨gl,0,za⟩) ns.length cl,zd (zb ⟨gr,0,za⟩) ns.length cr,.string t]) (by simp[results,results67,go_sem,d0,d1,d2,d3]) rfl ⟨cN,gl,cl,gr,cr,rfl,(hs.below cN).mono (aR _),?_,?_,λi hi=>?_,λi hi=>?_⟩
 ·have:=pE ol;simpa [World.setCell]using this
 ·have:=pE V7;simpa [World.setCell]using this
 ·rw[hcell gl i (by omega),ol.cellAt i (by omega)];simp[sf,hi]
 ·rw[hcell gr i (by omega),V7.cellAt i (by omega)];simp[sg,hi]
def iA(b:aV)(t:ByteArray)(a e:Nat)(cl:Bool):Prop:=BO b.aX b.bm t.size a e cl=true/\In (a8 b.nodes (b.nodes.length-1)) ((t.data.toList.drop a).take (e-a))
def Rt(w:zg)(P:Prop)(r:Ending)(w':zg):Prop:=∃b:Bool,r=.returned (.bool b)/\(b=true↔P)/\ze w.heap.size w w'
theorem zsu{w a b c d:zg}(h:ze w.heap.size w a)(h1:ze a.heap.size a b)(h2:ze b.heap.size b c)(h3:ze c.heap.size c d):ze w.heap.size w d:=by
 have k1:=aq h h.size h1;have k2:=aq k1 k1.size h2;exact aq k2 k2.size h3
theorem zhD{lo:Nat}(bd:aV)(ao:Option Addr)(c:Nat)(t:ByteArray)(a e:Nat)(cl:Bool)(w:zg)(hs:dZ lo w (.slice ao bd.nodes.length c) bd.nodes)(hn:bd.nodes.length<=1048576)(hk:jP bd.nodes=true)(iV:bd.nodes.all aY=true)
  (ha:∀i,i<bd.nodes.length->bC (bO bd.nodes i)<=(aK bd.nodes i).length) (gz:0<bd.nodes.length) (Il:a<=e) (Iu:e<=t.size) (ht:t.size<=4096):
  zj prog 65 #[zh #[.bool bd.aX,.bool bd.bm,.slice ao bd.nodes.length c],.string t,zc .i64 a,zc .i64 e,.bool cl] w λr w'=>Rt w (iA bd t a e cl) r w':=by
 obtain⟨aX,bm,ns⟩:=bd;unfold iA;dsimp only at *;have af:ze w.heap.size w (w.alloc (zf #[.bool aX,.bool bm,.slice ao ns.length c] 115)):=aw;have k0:(w.alloc (zf #[.bool aX,.bool bm,.slice ao ns.length c] 115)).heap[w.heap.size]?=zb (zf #[.bool aX,.bool bm,.slice ao ns.length c] 115 (0,0)):=aI _ _;have hE:=NB ns ha iV (ns.length-1) (by omega);have zzn:=λ(W:zg) (hb:ze w.heap.size w W)=>zmF aX bm ao c ns t W (hs.below hb) hn hk
 have K8:=λ(W:zg)=>YH t.size a W (by omega) (by omega)
 have K0:∀(z:Int) (W:zg) (gl cl gr cr g:Nat),z=((ns.length-1:Nat):Int)->vx W ns (.slice ao ns.length c) gl gr->oG W g (re t.size a)->
   zj prog 90 #[zh #[.slice ao ns.length c,zd (zb ⟨gl,0,za⟩) ns.length cl,zd (zb ⟨gr,0,za⟩) ns.length cr,.string t],zc .i64 z,zd (zb ⟨g,0,za⟩) (t.size+1) (t.size+1)] W λr w'=>NK W t (t.size+1) (fZ t.data.toList (In (a8 ns (ns.length-1))) (· = a)) r w':=by
  intro z W gl cl gr cr g hz h1 h2;subst hz;exact hE W ao c gl cl gr cr t g (t.size+1) (t.size+1) (re t.size a) _ h1 h2 (by simp[re]) (Xg t.size a (by omega)) ht
 have jo:∀z:Int,z=IntKind.i64.wrap ((ns.length:Int)-1)->z=((ns.length-1:Nat):Int):=λz h=>by rw[h,IntKind.wrap_i64];omega
 clear hE ha iV hk hs;have dC:=λ(W:zg)=>zpT aX bm cl ao ns.length c t a e W
 have HT:Hid (∀j,fZ t.data.toList (In (a8 ns (ns.length-1))) (· = a) j↔(a<=j/\j<=t.size)/\In (a8 ns (ns.length-1)) ((t.data.toList.drop a).take (j-a))):=λj=>by
  constructor
  ·rintro ⟨i,rfl,h1,h2,h3⟩;exact⟨⟨h1,by simpa using h2⟩,h3⟩
  ·rintro ⟨⟨h1,h2⟩,h3⟩;exact⟨a,rfl,h1,by simpa using h2,h3⟩
 generalize In (a8 ns (ns.length-1))=L at *
 go_enter func65,ntmps65
 go_wp2_with fail
 refine(dC _).mono ?_;rintro r w1 ⟨rfl,ag⟩;have p0:=nu k0 ag;have fu:=aq af af.size ag;have hq:∀o,w1.cell? ⟨w.heap.size,o,za⟩=#[Value.bool aX,.bool bm,.slice ao ns.length c][o]?:=λ_=>aM _ _ _ _ _ _ p0
 have q0:w1.cell? ⟨w.heap.size,0,za⟩=zb (.bool aX):=hq 0;have q1:w1.cell? ⟨w.heap.size,1,za⟩=zb (.bool bm):=hq 1;have q2:w1.cell? ⟨w.heap.size,2,za⟩=zb (.slice ao ns.length c):=hq 2;have ia:=vm p0;clear hq dC ag af k0;cases hp:BO aX bm t.size a e cl
 ·go_wp2;go_ret;exact⟨false,rfl,by rw[hp];simp,fu⟩
 have KG:=fu.drew;have da:(0:Int)<=(e:Int):=by omega
 have cO:(e:Int)<(t.size:Int)+1:=by omega
 go_wp2
 go_region_with (first|(go_at_call 67;refine(zzn _ (by first|exact KG|exact aq KG KG.size aG)).mono ?_;rintro r w2 ⟨ae,gl,Tn,gr,cr,rfl,aD⟩;have dg:=ae.size;have y0:=(ae.cell (p:=⟨w.heap.size,0,za⟩) (by first|exact ia|exact bA ia kn)).trans (by first|exact q0|exact z0);have y1:=(ae.cell (p:=⟨w.heap.size,1,za⟩) (by first|exact ia|exact bA ia kn)).trans (by first|exact q1|exact z1);have y2:=(ae.cell (p:=⟨w.heap.size,2,za⟩) (by first|exact ia|exact bA ia kn)).trans (by first|exact q2|exact z2))|(go_at_call 91;refine(K8 _).mono ?_;rintro r w3 ⟨rfl,tx,aG⟩;have kn:=aG.size;have z0:=(aG.cell (p:=⟨w.heap.size,0,za⟩) (by first|exact ia|exact bA ia dg)).trans (by first|exact q0|exact y0);have z1:=(aG.cell (p:=⟨w.heap.size,1,za⟩) (by first|exact ia|exact bA ia dg)).trans (by first|exact q1|exact y1);have z2:=(aG.cell (p:=⟨w.heap.size,2,za⟩) (by first|exact ia|exact bA ia dg)).trans (by first|exact q2|exact y2))|(go_at_call 90;refine(K0 _ _ gl Tn gr cr _ (by first|rfl|exact jo _ rfl) (by first|exact aD.below aG|exact aD) (by first|exact tx|exact tx.below ae)).mono ?_;rintro r w4 ⟨g4,c4,S4,rfl,uD,PF,qc,bE⟩;have hcell:=uD.2 e (by omega);obtain⟨q,hq⟩:∃q,S4.getD e false=q:=⟨_,rfl⟩;rw[hq]at hcell;have Hq:Hid _:=hq;clear hq;have zyM:ze w.heap.size w w4:=by first|exact zsu KG ae aG bE|exact zsu KG aG ae bE))
 all_goals
  have nW:q=true↔L ((t.data.toList.drop a).take (e-a)):=by
   rw[<-Hq.out];exact(qc.iff e).trans ((HT.out e).trans ⟨λh=>h.2,λh=>⟨⟨Il,Iu⟩,h⟩⟩)
  go_wp2;go_ret;exact⟨q,rfl,nW.trans ⟨λh=>⟨hp,h⟩,λh=>h.2⟩,zyM⟩
end
section
variable {lo:Nat}
theorem Qz(ns:List aL)(h:jP ns=true):0<ns.length/\∀i,i<ns.length->bC (bO ns i)<=(aK ns i).length:=by
 have h1:nE ns 0=zb 1:=eq_of_beq h;have key:∀k,k<=ns.length->nE (ns.drop k) (aK ns k).length=zb 1/\∀i,i<k->bC (bO ns i)<=(aK ns i).length:=by
  intro k
  induction k with
  |zero=>intro _;exact⟨h1,λi hi=>absurd hi (cR _)⟩
  |succ k ih=>
   intro hk;obtain⟨e,hs⟩:=ih (by omega);rw[zhO ns k (by omega) _ _ rfl]at e
   by_cases hc:(aK ns k).length<bC (bO ns k)
   ·rw[aC hc]at e;cases e
   ·rw[ak hc]at e;refine⟨by rw[Yy];exact e,λi hi=>?_⟩
    by_cases IC:i=k
    ·subst IC;omega
    ·exact hs i (by omega)
 refine⟨?_,(key ns.length (aj _)).2⟩;rcases Ea ns.length with h0|h0
 ·have:ns=[]:=BZ h0;subst this;cases h1
 ·exact h0
def nD(G:Int)(bs:List aV)(t:ByteArray)(a e:Int):Bool:=gC G bs&&decide (t.size<=4096/\0<=a/\a<=e/\e<=t.size)
theorem zkn(G:Int)(v:zi)(bs:List aV)(t:ByteArray)(a e:Int)(w:zg)(hs:eh lo w v bs)(hsm:Small bs):
  zj prog 64 #[zh #[v,zc .i64 G],.string t,zc .i64 a,zc .i64 e] w λr w'=>r=.returned (.bool (nD G bs t a e))/\ze w.heap.size w w':=by
 have dD:=hs;obtain⟨ao,cap,rfl,hm,hc⟩:=hs;have af:ze w.heap.size w (w.alloc (zf #[.slice ao bs.length cap,zc .i64 G] 69)):=aw;have Hp:Hid (nD G bs t a e=(gC G bs&&decide (t.size<=4096/\0<=a/\a<=e/\e<=t.size))):=rfl;have hr:=zfd G _ bs _ (dD.below af) hsm;clear hc dD hsm;generalize gC G bs=q at *
 go_enter func64,ntmps64
 go_wp2_with fail
 refine hr.mono ?_;rintro r w1 ⟨rfl,ag⟩;have bl:=aq af af.size ag;clear hr ag af;cases q
 ·go_wp2;go_ret;exact⟨bz (by rw[Hp.out];rfl),bl⟩
 by_cases h1:(t.size:Int)<=4096
 ·by_cases h2:0<=a
  ·by_cases h3:a<=e
   ·by_cases h4:e<=(t.size:Int)
    ·go_wp2;go_ret;exact⟨bz (by rw[Hp.out,kh];first|exact(decide_eq_true (by omega)).symm|exact(decide_eq_false (by omega)).symm|(rw[decide_eq_decide];omega)),bl⟩
    ·go_wp2;go_ret;exact⟨bz (by rw[Hp.out,kh];first|exact(decide_eq_true (by omega)).symm|exact(decide_eq_false (by omega)).symm|(rw[decide_eq_decide];omega)),bl⟩
   ·go_wp2;go_ret;exact⟨bz (by rw[Hp.out,kh];first|exact(decide_eq_true (by omega)).symm|exact(decide_eq_false (by omega)).symm|(rw[decide_eq_decide];omega)),bl⟩
  ·go_wp2;go_ret;exact⟨bz (by rw[Hp.out,kh];first|exact(decide_eq_true (by omega)).symm|exact(decide_eq_false (by omega)).symm|(rw[decide_eq_decide];omega)),bl⟩
 ·go_wp2;go_ret;exact⟨bz (by rw[Hp.out,kh];first|exact(decide_eq_true (by omega)).symm|exact(decide_eq_false (by omega)).symm|(rw[decide_eq_decide];omega)),bl⟩
def sE(G:Int)(bs:List aV)(t:ByteArray)(a e:Int)(cl:Bool):Prop:=nD G bs t a e=true/\∃k,k<bs.length/\iA (bs.getD k .zero) t a.toNat e.toNat cl
theorem zlR(G:Int)(v:zi)(bs:List aV)(t:ByteArray)(a e:Int)(cl:Bool)(w:zg)(hs:eh lo w v bs)(hsm:Small bs):
  zj prog 32 #[zh #[v,zc .i64 G],.string t,zc .i64 a,zc .i64 e,.bool cl] w λr w'=>Rt w (sE G bs t a e cl) r w':=by
 have dD:=hs;obtain⟨ao,cap,rfl,hm,hc⟩:=hs;have af:ze w.heap.size w (w.alloc (zf #[.slice ao bs.length cap,zc .i64 G] 69)):=aw;have k0:(w.alloc (zf #[.slice ao bs.length cap,zc .i64 G] 69)).heap[w.heap.size]?=zb (zf #[.slice ao bs.length cap,zc .i64 G] 69 (0,0)):=aI _ _;have hr:=zkn G _ bs t a e _ (dD.below af) hsm;clear dD
 go_enter func32,ntmps32
 go_wp2_with fail
 refine hr.mono ?_;rintro r w1 ⟨rfl,ag⟩;have bl:=aq af af.size ag;have p0:=nu k0 ag;have q0:w1.cell? ⟨w.heap.size,0,za⟩=zb (.slice ao bs.length cap):=(aM _ _ _ _ _ _ p0:w1.cell? ⟨w.heap.size,0,za⟩=_);clear hr ag af k0;cases hq:nD G bs t a e
 ·go_wp2;go_ret;refine⟨false,rfl,⟨λh=>(Bool.false_ne_true h).elim,λh=>?_⟩,bl⟩;have:=h.1;rw[hq]at this;exact this
 have tJ:=hq;unfold nD gC at tJ;simp only[de,lx]at tJ;obtain⟨⟨⟨⟨⟨⟨⟨ag,-⟩,-⟩,io⟩,-⟩,-⟩,-⟩,ht,CY,Il,Iu⟩:=tJ;obtain⟨a',rfl⟩:∃a':Nat,a=a':=⟨a.toNat,by omega⟩;obtain⟨e',rfl⟩:∃e':Nat,e=e':=⟨e.toNat,by omega⟩;have dK:=λ(k:Nat) (hk:k<bs.length) (W:zg) (ao:Option Addr) (c:Nat) (h:dZ lo W (.slice ao (bs.getD k .zero).nodes.length c) (bs.getD k .zero).nodes)=>by
  have zA:bs.getD k .zero∈bs:=by rw[bP,dh hk];exact kg _
  have gH:=iQ.1 io _ zA;simp only[de]at gH;have hst:=Qz _ gH.1;exact zhD (bs.getD k .zero) ao c t a' e' cl W h (hsm.2 k hk).1 gH.1 gH.2 hst.2 hst.1 (by omega) (by omega) ht
 have Hq:Hid _:=hq;have hlen:=hsm.1;clear io hsm hq;go_wp2
 go_loopw [22] (λi wr=>∃k:Nat,k<=bs.length/\i=zc .i64 k/\ze w.heap.size w wr/\Hid (∀j,j<k->¬iA (bs.getD j .zero) t a' e' cl))
  (λi _=>bs.length-(intOf i).toNat)
 case atStart=>exact⟨0,aR _,rfl,bl,λj hj=>absurd hj (cR _)⟩
 case round=>
  obtain⟨k,hk,rfl,hb,HN⟩:=hrel
  by_cases hlt:k<bs.length
  ·obtain⟨b,o,nv,bd,rfl,Hn,aZ,c0,c1,c2,ir⟩:=hc.elem hb hlt;have jk:=dK k hlt;rw[Hn.out]at jk;obtain⟨dM,iX,rfl,mQ,kW⟩:=ir;have ir:dZ lo wr (.slice dM bd.nodes.length iX) bd.nodes:=⟨dM,iX,rfl,mQ,kW⟩;have bQ:ze w.heap.size w (wr.alloc (zf #[.bool bd.aX,.bool bd.bm,.slice dM bd.nodes.length iX] 115)):=hb.alloc hb.size _;have Py:=jk _ dM iX (ir.below (w':=wr.alloc (zf #[.bool bd.aX,.bool bd.bm,.slice dM bd.nodes.length iX] 115)) (aw));clear jk dK kW hc ir;have HB:Hid (iA (bs.getD k .zero) t a' e' cl=iA bd t a' e' cl):=by show _=_;rw[Hn.out]
   go_wp2_with fail
   refine Py.mono ?_;rintro r w2 ⟨q,rfl,nW,ae⟩;have dg:=aq bQ bQ.size ae;cases q
   ·go_wp2
    go_roundw
    case rel=>exact⟨k+1,by omega,by go_num,dg,λj hj=>by
     by_cases ej:j=k
     ·subst ej;rw[HB.out,<-nW];simp
     ·exact HN.out j (by omega)⟩
    case measure=>simp[intOf];omega
   ·go_wp2;go_ret;exact⟨true,rfl,⟨λ_=>⟨Hq.out,k,hlt,by rw[show (a':Int).toNat=a' by omega,show (e':Int).toNat=e' by omega,HB.out];first|exact nW.1 rfl|exact nW.1 trivial⟩,λ_=>rfl⟩,dg⟩
  ·go_wp2;go_ret;refine⟨false,rfl,⟨λh=>(Bool.false_ne_true h).elim,?_⟩,hb⟩;rintro ⟨-,j,hj,h⟩;rw[show (a':Int).toNat=a' by omega,show (e':Int).toNat=e' by omega]at h;exact absurd h (HN.out j (by omega))
end
section
variable {b:Pt}{w w':zg}{L:aJ -> Prop}{u:aJ}{mx:Int}
def aU(w:zg):zi->Pt->Prop
 |v,.set f=>∃mg:Nat,v=.iface 297 (zh #[.pointer (zb ⟨mg,0,za⟩)])/\w.heap[mg]?=zb (zf (dz f) 293 (0,0))
 |v,.seq l r=>∃lv rv,v=.iface 256 (zh #[lv,rv])/\aU w lv l/\aU w rv r
 |v,.aN l r=>∃lv rv,v=.iface 258 (zh #[lv,rv])/\aU w lv l/\aU w rv r
 |v,.az b mn mx=>∃lv,v=.iface 261 (zh #[lv,zc .i64 mn,zc .i64 mx])/\aU w lv b/\fj mn mx=true
 |v,.aT b g=>∃lv,v=.iface 264 (zh #[lv,zc .i64 g])/\aU w lv b
def bJ(w w':zg):Prop:=∀(mg:Nat) (f:Nat->Bool),w.heap[mg]?=zb (zf (dz f) 293 (0,0))->w'.heap[mg]?=zb (zf (dz f) 293 (0,0))
theorem bJ.trans{a b c:zg}(h:bJ a b)(k:bJ b c):bJ a c:=λmg f e=>k mg f (h mg f e)
theorem bJ.of(h:ze w.heap.size w w'):bJ w w':=λmg _ e=>(h.block mg (ah.1 e).1).trans e
theorem bJ.grown{g:Nat}{cs:Array zi}{t:TypeId}{fr:Nat×Nat}(h:w.grownBy w' (zb g))(hg:w.heap[g]?=zb (zf cs t fr))(ht:t≠293):bJ w w':=λmg f e=>by
 refine(h.block mg (ah.1 e).1 (λq=>?_)).trans e;cases q;rw[hg]at e;cases e;exact ht rfl
theorem aU.keep(hk:bJ w w'):∀(p:Pt) (v:zi),aU w v p->aU w' v p
 |.set f,_,⟨mg,h1,h2⟩=>⟨mg,h1,hk mg f h2⟩
 |.seq l r,_,⟨lv,rv,h1,h2,h3⟩=>⟨lv,rv,h1,aU.keep hk l lv h2,aU.keep hk r rv h3⟩
 |.aN l r,_,⟨lv,rv,h1,h2,h3⟩=>⟨lv,rv,h1,aU.keep hk l lv h2,aU.keep hk r rv h3⟩
 |.az b _ _,_,⟨lv,h1,h2,h3⟩=>⟨lv,h1,aU.keep hk b lv h2,h3⟩
 |.aT b _,_,⟨lv,h1,h2⟩=>⟨lv,h1,aU.keep hk b lv h2⟩
def aE:Pt->Int
 |.set _=>1
 |.seq l r=>cM (aE l+aE r)
 |.aN l r=>cM (aE l+aE r)
 |.az b mn mx=>cM (aE b*ed mn mx)
 |.aT b _=>aE b
theorem Pow.many{M:aJ->Prop}(h:∀u,M u->∃j,Pow L j u):∀(k:Nat) (u:aJ),Pow M k u->∃j,Pow L j u
 |0,_,hu=>⟨0,hu⟩
 |k+1,_,⟨a,b,e,ha,hb⟩=>by
  obtain⟨i,hi⟩:=h a ha;obtain⟨j,hj⟩:=Pow.many h k b hb;exact⟨i+j,by rw[e];exact hi.add i j hj⟩
theorem YI(h:L u):Pow L 1 u:=⟨u,[],by simp,h,rfl⟩
theorem zth(h:Pow L 1 u):L u:=by
 obtain⟨x,y,rfl,hx,hy⟩:=h;cases hy
 simpa using hx
theorem XX(h:gT 0 mx=true)(u:aJ):In (.az b 0 mx) u↔∃k:Nat,(mx=-1\/k<=1)/\Pow (In b) k u:=by
 have hm:mx=1\/mx=-1:=by simpa [gT]using h
 constructor
 ·rintro ⟨k,_,h2,h3⟩;exact⟨k,by omega,h3⟩
 ·rintro ⟨k,h2,h3⟩;exact⟨k,by omega,by omega,h3⟩
theorem zfT{lI fe mn:Int}(h1:gT lI fe=true)(h2:gT mn mx=true)(u:aJ):In (.az b 0 (if fe<=mx then fe else mx)) u↔In (.az (.az b lI fe) mn mx) u:=by
 have e1:lI=0:=by simp[gT]at h1;exact h1.1
 have e2:mn=0:=by simp[gT]at h2;exact h2.1
 subst e1 e2;have dw:fe=1\/fe=-1:=by simpa [gT]using h1
 have dG:mx=1\/mx=-1:=by simpa [gT]using h2
 rw[XX (XF h1 h2),XX h2];have hi:∀u,In (.az b 0 fe) u↔_:=XX h1;constructor
 ·rintro ⟨k,hk,hp⟩
  by_cases hx:fe=-1
  ·exact⟨1,.inr (aj _),YI ((hi u).2 ⟨k,.inl hx,hp⟩)⟩
  ·have rY:fe=1:=by omega
   by_cases uW:mx=-1
   ·refine⟨k,.inl uW,?_⟩;clear hk
    induction k generalizing u with
    |zero=>exact hp
    |succ k ih=>
     obtain⟨x,y,e,tP,hy⟩:=hp;exact⟨x,y,e,(hi x).2 ⟨1,.inr (aj _),YI tP⟩,ih y hy⟩
   ·have db:k<=1:=by
     rcases hk with hk|hk
     ·rw[rY]at hk;split at hk<;>omega
     ·exact hk
    exact⟨1,.inr (aj _),YI ((hi u).2 ⟨k,.inr db,hp⟩)⟩
 ·rintro ⟨k,hk,hp⟩
  by_cases hs:fe=-1\/mx=-1
  ·obtain⟨j,hj⟩:=Pow.many (L:=In b) (λu hu=>by obtain⟨j,_,hj⟩:=(hi u).1 hu;exact⟨j,hj⟩) k u hp;exact⟨j,.inl (by split<;>omega),hj⟩
  ·have db:k<=1:=by omega
   match k,db,hp with
   |0,_,hp=>exact⟨0,.inr (by omega),hp⟩
   |1,_,hp=>
    obtain⟨j,E7,hj⟩:=(hi u).1 (zth hp);exact⟨j,.inr (by omega),hj⟩
theorem zjM{p q:Pt}(h:∀u,In p u↔In q u)(mn mx:Int)(u:aJ):In (.az p mn mx) u↔In (.az q mn mx) u:=
 exists_congr λk=>and_congr_right λ_=>and_congr_right λ_=>Pow.congr h k u
end
variable {u:aJ}{p q b:Pt}{i j:Nat}{mx:Int}{P:Nat -> Prop}
def Lg(u:aJ)(p:Pt)(i j:Nat):Prop:=i<=j/\j<=u.length/\In p ((u.drop i).take (j-i))
theorem zpp:Lg u p i j↔fZ u (In p) (· = i) j:=
 ⟨λh=>⟨i,rfl,h⟩,λ⟨_,e,h⟩=>by subst e;exact h⟩
theorem tW(h:∀w,In p w↔In q w){i j:Nat}:Lg u p i j↔Lg u q i j:=and_congr_right λ_=>and_congr_right λ_=>h _
theorem YQ:Lg u (.seq p q) i j↔∃k,Lg u p i k/\Lg u q k j:=by
 rw[zpp];refine(QL (L:=In p) (M:=In q) j).trans ?_;constructor
 ·rintro ⟨k,⟨_,rfl,h⟩,h2⟩;exact⟨k,h,h2⟩
 ·rintro ⟨k,h,h2⟩;exact⟨k,⟨i,rfl,h⟩,h2⟩
theorem YP:Lg u (.aN p q) i j↔Lg u p i j\/Lg u q i j:=by
 constructor
 ·rintro ⟨h1,h2,h|h⟩
  ·exact .inl ⟨h1,h2,h⟩
  ·exact .inr ⟨h1,h2,h⟩
 ·rintro (⟨h1,h2,h⟩|⟨h1,h2,h⟩)
  ·exact⟨h1,h2,.inl h⟩
  ·exact⟨h1,h2,.inr h⟩
def Cp(u:aJ)(b:Pt):Nat->Nat->Nat->Prop
 |0,i,j=>i=j
 |k+1,i,j=>∃m,Lg u b i m/\Cp u b k m j
theorem Rn:∀(k i j:Nat),j<=u.length->((i<=j/\Pow (In b) k ((u.drop i).take (j-i)))↔Cp u b k i j)
 |0,i,j,hj=>by
  constructor
  ·rintro ⟨h1,h⟩;have h':(u.drop i).take (j-i)=[]:=h;have hlen:((u.drop i).take (j-i)).length=j-i:=by simp;omega
   rw[h']at hlen;simp only[oJ]at hlen;show i=j;omega
  ·intro h;have h:i=j:=h;subst h;exact⟨aj _,by rw[Aa];rfl⟩
 |k+1,i,j,hj=>by
  have e:=(QL (u:=u) (L:=In b) (M:=Pow (In b) k) (F:=(· = i)) j);constructor
  ·rintro ⟨h1,h⟩;obtain⟨m,⟨_,rfl,h2⟩,h3,_,h4⟩:=e.1 ⟨i,rfl,h1,hj,h⟩;exact⟨m,h2,(Rn k m j hj).1 ⟨h3,h4⟩⟩
  ·rintro ⟨m,h2,h3⟩;obtain⟨h4,h5⟩:=(Rn k m j hj).2 h3;obtain⟨_,e0,h6,_,h7⟩:=e.2 ⟨m,⟨i,rfl,h2⟩,h4,hj,h5⟩;subst e0;exact⟨h6,h7⟩
theorem wQ{mn:Int}:Lg u (.az b mn mx) i j↔j<=u.length/\∃k:Nat,mn<=k/\(mx=-1\/(k:Int)<=mx)/\Cp u b k i j:=by
 constructor
 ·rintro ⟨h1,h2,k,h3,h4,h5⟩;exact⟨h2,k,h3,h4,(Rn k i j h2).1 ⟨h1,h5⟩⟩
 ·rintro ⟨h2,k,h3,h4,h5⟩;obtain⟨h1,h6⟩:=(Rn k i j h2).2 h5;exact⟨h1,h2,k,h3,h4,h6⟩
def qy(P:Nat->Prop)(i j k:Nat):Prop:=i<=k/\k<=j/\P k/\∀m,k<m->m<=j->¬P m
theorem Nl:∀(j:Nat),(∃k,i<=k/\k<=j/\P k)->∃k,qy P i j k
 |0,⟨k,h1,h2,h3⟩=>⟨k,h1,h2,h3,λm a b=>by omega⟩
 |j+1,⟨k,h1,h2,h3⟩=>by
  by_cases h:i<=j+1/\P (j+1)
  ·exact⟨j+1,h.1,aj _,h.2,λm a b=>by omega⟩
  ·have hk:k<=j:=by
    rcases ig j k with a|a
    ·obtain rfl:k=j+1:=by omega
     exact absurd ⟨h1,h3⟩ h
    ·exact a
   obtain⟨m,g1,g2,g3,g4⟩:=Nl j ⟨k,h1,hk,h3⟩;refine⟨m,g1,by omega,g3,λx a b hx=>?_⟩;rcases ig j x with c|c
   ·obtain rfl:x=j+1:=by omega
    exact h ⟨by omega,hx⟩
   ·exact g4 x a c hx
theorem qy.congr{Q:Nat->Prop}{k:Nat}(h:qy P i j k)(he:∀m,i<=m->m<=j->(P m↔Q m)):qy Q i j k:=
 ⟨h.1,h.2.1,(he k h.1 h.2.1).1 h.2.2.1,λm a b hq=>h.2.2.2 m a b ((he m (by have:=h.1;omega) b).2 hq)⟩
abbrev Up:=Int×Nat×Nat
inductive ii (L:Nat->Nat->Prop) (R:Nat->Nat->List Up->Prop) (C:Nat->Int->Nat->Nat->Prop):Nat->Int->Nat->Nat->List Up->Prop
 |done (i j:Nat):ii L R C 0 0 i j []
 |pA (i:Nat):ii L R C 0 (-1) i i []
 |out (mx:Int) (i j:Nat) (h:0<mx) (hn:∀k,i<=k->k<=j->¬(L i k/\C 0 (mx-1) k j)):ii L R C 0 mx i j []
 |must (mn:Nat) (mx:Int) (i j k:Nat) (l1 l2:List Up) (h:qy (λk=>L i k/\C mn (if 0<mx then mx-1 else mx) k j) i j k) (h1:R i k l1) (h2:ii L R C mn (if 0<mx then mx-1 else mx) k j l2):ii L R C (mn+1) mx i j (l1++l2)
 |may (mx:Int) (i j k:Nat) (l1 l2:List Up) (hm:0<mx) (h:qy (λk=>L i k/\C 0 (mx-1) k j) i j k) (h1:R i k l1) (h2:ii L R C 0 (mx-1) k j l2):ii L R C 0 mx i j (l1++l2)
 |more (i j k:Nat) (l1 l2:List Up) (hi:i<j) (h:qy (λk=>L i k/\C 0 (-1) k j) (i+1) j k) (h1:R i k l1) (h2:ii L R C 0 (-1) k j l2):ii L R C 0 (-1) i j (l1++l2)
def Pl(u:aJ):Pt->Nat->Nat->List Up->Prop
 |.set _,_,_,l=>l=[]
 |.aT b g,i,j,l=>∃m,l=(g,i,j)::m/\Pl u b i j m
 |.seq p q,i,j,l=>∃k l1 l2,qy (λk=>Lg u p i k/\Lg u q k j) i j k/\Pl u p i k l1/\Pl u q k j l2/\l=l1++l2
 |.aN p q,i,j,l=>(Lg u p i j/\Pl u p i j l)\/(¬Lg u p i j/\Pl u q i j l)
 |.az b mn mx,i,j,l=>ii (Lg u b) (Pl u b) (λmn mx i j=>Lg u (.az b mn mx) i j) mn.toNat mx i j l
theorem Yv{mn:Nat}(hb:mx=-1\/(mn:Int)+1<=mx):Lg u (.az b ((mn+1:Nat):Int) mx) i j↔∃k,Lg u b i k/\Lg u (.az b mn (if 0<mx then mx-1 else mx)) k j:=by
 rw[wQ];constructor
 ·rintro ⟨h2,k,h3,h4,h5⟩;obtain⟨n,rfl⟩:∃n,k=n+1:=⟨k-1,by omega⟩;obtain⟨m,h6,h7⟩:=h5;refine⟨m,h6,wQ.2 ⟨h2,n,by omega,?_,h7⟩⟩;rcases h4 with rfl|h4
  ·left;decide
  ·right;split<;>omega
 ·rintro ⟨k,h1,h⟩;obtain⟨h2,n,h3,h4,h5⟩:=wQ.1 h;refine⟨h2,n+1,by omega,?_,k,h1,h5⟩;rcases hb with rfl|hb
  ·left;rfl
  ·right
   rw[aC (by omega)]at h4;omega
theorem ztk(hm:0<mx)(h:Lg u (.az b 0 mx) i j):i=j\/∃k,Lg u b i k/\Lg u (.az b 0 (mx-1)) k j:=by
 obtain⟨h2,k,h3,h4,h5⟩:=wQ.1 h;cases k with
 |zero=>exact .inl h5
 |succ n=>
  obtain⟨m,h6,h7⟩:=h5;exact .inr ⟨m,h6,wQ.2 ⟨h2,n,by omega,.inr (by rcases h4 with h4|h4<;>omega),h7⟩⟩
theorem zoE:∀{k i j:Nat},Cp u b k i j->i<j->∃n m,n<k/\i<m/\Lg u b i m/\Cp u b n m j
 |0,i,j,h,dL=>absurd (show i=j from h) (by omega)
 |k+1,i,j,⟨m,h1,h2⟩,dL=>by
  by_cases hm:i<m
  ·exact⟨k,m,by omega,hm,h1,h2⟩
  ·obtain rfl:m=i:=by have:=h1.1;omega
   obtain⟨n,x,a,b,c,d⟩:=zoE h2 dL;exact⟨n,x,by omega,b,c,d⟩
theorem zmM(dL:i<j)(h:Lg u (.az b 0 (-1)) i j):∃k,i+1<=k/\Lg u b i k/\Lg u (.az b 0 (-1)) k j:=by
 obtain⟨h2,k,h3,h4,h5⟩:=wQ.1 h;obtain⟨n,m,_,h6,h7,h8⟩:=zoE h5 dL;exact⟨m,h6,h7,wQ.2 ⟨h2,n,by omega,.inl rfl,h8⟩⟩
theorem zmb(ih:∀i j,Lg u b i j->∃l,Pl u b i j l):∀(mn:Nat) (mx:Int),(mx=-1\/(mn:Int)<=mx)->∀i j,Lg u (.az b mn mx) i j->∃l,ii (Lg u b) (Pl u b) (λmn mx i j=>Lg u (.az b mn mx) i j) mn mx i j l
 |mn+1,mx,hb,i,j,h=>by
  obtain⟨k0,h1,h2⟩:=(Yv (by omega)).1 h;obtain⟨k,hk⟩:=Nl (P:=λk=>Lg u b i k/\Lg u (.az b mn (if 0<mx then mx-1 else mx)) k j) (i:=i) j ⟨k0,h1.1,h2.1,h1,h2⟩;obtain⟨l1,e1⟩:=ih i k hk.2.2.1.1;obtain⟨l2,e2⟩:=zmb ih mn (if 0<mx then mx-1 else mx) (by split<;>omega) k j hk.2.2.1.2;exact⟨_,.must mn mx i j k l1 l2 hk e1 e2⟩
 |0,mx,hb,i,j,h=>by
  rcases Int.lt_trichotomy mx 0 with hm|hm|hm
  ·obtain rfl:mx=-1:=by omega
   have:∀(n i:Nat),j-i<=n->Lg u (.az b ((0:Nat):Int) (-1)) i j->∃l,ii (Lg u b) (Pl u b) (λmn mx i j=>Lg u (.az b mn mx) i j) 0 (-1) i j l:=by
    intro n
    induction n with
    |zero=>
     intro i hn h;obtain rfl:i=j:=by have:=h.1;omega
     exact⟨_,.pA i⟩
    |succ n VK=>
     intro i hn h
     by_cases dL:i<j
     ·obtain⟨k0,h1,h2,h3⟩:=zmM dL h;obtain⟨k,hk⟩:=Nl (P:=λk=>Lg u b i k/\Lg u (.az b ((0:Nat):Int) (-1)) k j) (i:=i+1) j ⟨k0,h1,h3.1,h2,h3⟩;obtain⟨l1,e1⟩:=ih i k hk.2.2.1.1;obtain⟨l2,e2⟩:=VK k (by have:=hk.1;omega) hk.2.2.1.2;exact⟨_,.more i j k l1 l2 dL hk e1 e2⟩
     ·obtain rfl:i=j:=by have:=h.1;omega
      exact⟨_,.pA i⟩
   exact this _ i (aj _) h
  ·subst hm;exact⟨_,.done i j⟩
  ·obtain⟨n,rfl⟩:∃n:Nat,mx=n:=⟨mx.toNat,by omega⟩;clear hb hm
   induction n generalizing i with
   |zero=>exact⟨_,.done i j⟩
   |succ n VK=>
    by_cases hn:∀k,i<=k->k<=j->¬(Lg u b i k/\Lg u (.az b 0 (((n+1:Nat):Int)-1)) k j)
    ·exact⟨_,.out _ i j (by omega) hn⟩
    ·have:∃k,i<=k/\k<=j/\(Lg u b i k/\Lg u (.az b ((0:Nat):Int) (((n+1:Nat):Int)-1)) k j):=by
      apply Classical.byContradiction
      intro hc;exact hn λk a b h=>hc ⟨k,a,b,h⟩
     obtain⟨k,hk⟩:=Nl j this;obtain⟨l1,e1⟩:=ih i k hk.2.2.1.1;have e0:(((n+1:Nat):Int)-1)=(n:Int):=by omega
     obtain⟨l2,e2⟩:=VK k (by rw[<-e0];exact hk.2.2.1.2);exact⟨_,.may _ i j k l1 l2 (by omega) hk e1 (by rw[e0];exact e2)⟩
def oT:Pt->Prop
 |.set _=>True
 |.seq p q=>oT p/\oT q
 |.aN p q=>oT p/\oT q
 |.az b mn mx=>oT b/\0<=mn/\(mx=-1\/mn<=mx)
 |.aT b _=>oT b
theorem ym:∀(p:Pt),oT p->∀i j,Lg u p i j->∃l,Pl u p i j l
 |.set _,_,_,_,_=>⟨[],rfl⟩
 |.aT b g,ho,i,j,h=>by
  obtain⟨l,e⟩:=ym b ho i j h;exact⟨_,l,rfl,e⟩
 |.seq p q,ho,i,j,h=>by
  obtain⟨k0,h1,h2⟩:=YQ.1 h;obtain⟨k,hk⟩:=Nl (P:=λk=>Lg u p i k/\Lg u q k j) (i:=i) j ⟨k0,h1.1,h2.1,h1,h2⟩;obtain⟨l1,e1⟩:=ym p ho.1 i k hk.2.2.1.1;obtain⟨l2,e2⟩:=ym q ho.2 k j hk.2.2.1.2;exact⟨_,k,l1,l2,hk,e1,e2,rfl⟩
 |.aN p q,ho,i,j,h=>by
  by_cases hp:Lg u p i j
  ·obtain⟨l,e⟩:=ym p ho.1 i j hp;exact⟨l,.inl ⟨hp,e⟩⟩
  ·obtain⟨l,e⟩:=ym q ho.2 i j ((YP.1 h).resolve_left hp);exact⟨l,.inr ⟨hp,e⟩⟩
 |.az b mn mx,ho,i,j,h=>by
  obtain⟨h1,h2,h3⟩:=ho;obtain⟨m,rfl⟩:∃m:Nat,mn=m:=⟨mn.toNat,by omega⟩;exact zmb (ym b h1) m mx h3 i j h
end Go.Proofs.YtdimhpfiieepiaaGreatDoor
