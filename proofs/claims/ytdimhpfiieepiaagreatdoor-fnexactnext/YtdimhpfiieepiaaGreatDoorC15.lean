import Derived.Test.YtdimhpfiieepiaaGreatDoorC11
import Derived.Test.YtdimhpfiieepiaaGreatDoorC14
import Derived.Deep.RegionHeld3
namespace Go.Proofs.YtdimhpfiieepiaaGreatDoor
open Proofs.Tryz
open Option renaming none->zb,some->zc
open Value renaming int->ze,slice->zf,agg->zj
open RowKit renaming Below->zg
open Obj renaming cells->zh
open Go renaming World->zi,Value->zk,Calls->zl
set_option maxHeartbeats 4000000
set_option maxRecDepth 100000
section
variable {w W W':zi}{a0 a1 a2 a3 lv rv:zk}{gl gr n:Nat}
open Go.RowKit
attribute [local go_sem ↓] wp_at_zero wp_at_succ
def jE(w:zi)(a0 a1 a2 a3:zk)(n0 n1 n2 n3 n4:zk)(gl gr n:Nat)(lv rv:zk)(W:zi):Prop:=
 zg w.heap.size w W/\w.heap.size+1<W.heap.size/\W.cell? ⟨w.heap.size,0,zb⟩=zc a0/\W.cell? ⟨w.heap.size,1,zb⟩=zc a1/\W.cell? ⟨w.heap.size,2,zb⟩=zc a2/\W.cell? ⟨w.heap.size,3,zb⟩=zc a3/\
  W.cell? ⟨w.heap.size+1,0,zb⟩=zc n0/\W.cell? ⟨w.heap.size+1,1,zb⟩=zc n1/\W.cell? ⟨w.heap.size+1,2,zb⟩=zc n2/\W.cell? ⟨w.heap.size+1,3,zb⟩=zc n3/\W.cell? ⟨w.heap.size+1,4,zb⟩=zc n4/\
  W.cell? ⟨gl,n,zb⟩=zc lv/\W.cell? ⟨gr,n,zb⟩=zc rv/\gl<w.heap.size/\gr<w.heap.size
theorem jE.call{n0 n1 n2 n3 n4:zk}(h:jE w a0 a1 a2 a3 n0 n1 n2 n3 n4 gl gr n lv rv W)(hb:zg W.heap.size W W'):jE w a0 a1 a2 a3 n0 n1 n2 n3 n4 gl gr n lv rv W':=by
 obtain⟨h1,h2,c0,c1,c2,c3,d0,d1,d2,d3,d4,l,r,lt,rt⟩:=h;have hc:∀b o,b<W.heap.size->W'.cell? ⟨b,o,zb⟩=W.cell? ⟨b,o,zb⟩:=λb o hl=>hb.cell (p:=⟨b,o,zb⟩) hl
 have hz:=h1.size;exact⟨aj h1 h1.size hb,bA h2 hb.size,(hc _ _ (by omega)).trans c0,(hc _ _ (by omega)).trans c1,(hc _ _ (by omega)).trans c2,(hc _ _ (by omega)).trans c3,(hc _ _ (by omega)).trans d0,(hc _ _ (by omega)).trans d1,(hc _ _ (by omega)).trans d2,(hc _ _ (by omega)).trans d3,(hc _ _ (by omega)).trans d4,(hc _ _ (by omega)).trans l,(hc _ _ (by omega)).trans r,lt,rt⟩
theorem jE.new(w:zi)(a0 a1 a2 a3 n0 n1 n2 n3 n4:zk)(t1 t2:TypeId){gl gr n:Nat}{lv rv:zk}(lt:gl<w.heap.size)(rt:gr<w.heap.size)(l:w.cell? ⟨gl,n,zb⟩=zc lv)(r:w.cell? ⟨gr,n,zb⟩=zc rv):
  jE w a0 a1 a2 a3 n0 n1 n2 n3 n4 gl gr n lv rv ((w.alloc (zh #[a0,a1,a2,a3] t1)).alloc (zh #[n0,n1,n2,n3,n4] t2)).drew:=by
 have k1:=cQ (ob:=zh #[n0,n1,n2,n3,n4] t2) (aL w (zh #[a0,a1,a2,a3] t1));have k2:((w.alloc (zh #[a0,a1,a2,a3] t1)).alloc (zh #[n0,n1,n2,n3,n4] t2)).heap[w.heap.size+1]?=zc (zh #[n0,n1,n2,n3,n4] t2):=by
  have h:=aL (w.alloc (zh #[a0,a1,a2,a3] t1)) (zh #[n0,n1,n2,n3,n4] t2);rwa[World.size_alloc]at h
 obtain⟨p0,p1,p2,p3⟩:=gC k1;obtain⟨q0,q1,q2,q3,q4⟩:=EW k2;have hb:=((Below.refl w.heap.size w).alloc (ai _) (zh #[a0,a1,a2,a3] t1)).alloc (by simp) (zh #[n0,n1,n2,n3,n4] t2);exact⟨hb.drew,by simp,p0,p1,p2,p3,q0,q1,q2,q3,q4,(hb.cell (p:=⟨gl,n,zb⟩) lt).trans l,(hb.cell (p:=⟨gr,n,zb⟩) rt).trans r,lt,rt⟩
theorem E3(lt:gl<w.heap.size)(rt:gr<w.heap.size)
  (h:zg w.heap.size w W/\w.heap.size+1<W.heap.size/\W.cell? ⟨w.heap.size,0,zb⟩=zc a0/\W.cell? ⟨w.heap.size,1,zb⟩=zc a1/\W.cell? ⟨w.heap.size,2,zb⟩=zc a2/\W.cell? ⟨w.heap.size,3,zb⟩=zc a3/\W.cell? ⟨gl,n,zb⟩=zc lv/\W.cell? ⟨gr,n,zb⟩=zc rv) (hb:zg W.heap.size W W'):
  zg w.heap.size w W'/\w.heap.size+1<W'.heap.size/\W'.cell? ⟨w.heap.size,0,zb⟩=zc a0/\W'.cell? ⟨w.heap.size,1,zb⟩=zc a1/\W'.cell? ⟨w.heap.size,2,zb⟩=zc a2/\W'.cell? ⟨w.heap.size,3,zb⟩=zc a3/\W'.cell? ⟨gl,n,zb⟩=zc lv/\W'.cell? ⟨gr,n,zb⟩=zc rv:=by
 obtain⟨h1,h2,c0,c1,c2,c3,l,r⟩:=h;have hc:∀b o,b<W.heap.size->W'.cell? ⟨b,o,zb⟩=W.cell? ⟨b,o,zb⟩:=λb o hl=>hb.cell (p:=⟨b,o,zb⟩) hl
 have hz:=h1.size;exact⟨aj h1 h1.size hb,bA h2 hb.size,(hc _ _ (by omega)).trans c0,(hc _ _ (by omega)).trans c1,(hc _ _ (by omega)).trans c2,(hc _ _ (by omega)).trans c3,(hc _ _ (by omega)).trans l,(hc _ _ (by omega)).trans r⟩
theorem zoE(ns:List aM)(n x:Nat)(hn:n<ns.length)(hk:bJ ns n=5)(hT:aK ns n=.aT (aK ns x) (ns.getD n .zero).group)(hL:lh ns n=x)(hX:jB ns x):jB ns n:=by
 intro w ao c gl cl gr cr t g cap m S F aB hS sZ hF ht;rw[hT];obtain⟨iG,fe,hv,AK,hc⟩:=aB.nodes;cases hv;obtain⟨b,o,sv,nd,rfl,Hn,bu,c0,c1,c2,c3,c4,di⟩:=hc.elem (Below.refl _ _) hn;have cM:nd.kind=5:=by rw[<-hk];unfold bJ;rw[Hn.out]
 rw[cM]at c0;obtain⟨bH,bI,rfl,hsm,jQ⟩:=di;have cV:=λ(W:zi) (hb:zg w.heap.size w W)=>hX W (zc ⟨b,o,zb⟩) c gl cl gr cr t g cap m S F (aB.below hb) (hS.below hb) sZ hF ht
 have l0:=aB.left n hn;rw[hL]at l0;have r0:=aB.right n hn;obtain⟨ri,xz⟩:∃ri,oh ns n=ri:=⟨_,rfl⟩;rw[xz]at r0;have hlt:=aB.za;have hrt:=aB.zd;clear hk hT cM hc jQ aB hX hF xz;have dO:(0:Int)<=(n:Int):=by omega
 have dh:(n:Int)<(ns.length:Int):=by omega
 have H0:=jE.new w (zf (zc ⟨b,o,zb⟩) ns.length c) (zf (zc ⟨gl,0,zb⟩) ns.length cl) (zf (zc ⟨gr,0,zb⟩) ns.length cr) (.string t) (ze .i64 5) (.slice bH nd.set.length bI) (ze .i64 nd.min) (ze .i64 nd.max) (ze .i64 nd.group) 119 149 hlt hrt l0 r0;have dr:=H0.1
 go_enter func90,ntmps90
 go_wp2
 go_region_held3 (λw'=>zg w.heap.size w w'/\w.heap.size+1<w'.heap.size/\w'.cell? ⟨w.heap.size,0,zb⟩=zc (zf (zc ⟨b,o,zb⟩) ns.length c)/\w'.cell? ⟨w.heap.size,1,zb⟩=zc (zf (zc ⟨gl,0,zb⟩) ns.length cl)/\w'.cell? ⟨w.heap.size,2,zb⟩=zc (zf (zc ⟨gr,0,zb⟩) ns.length cr)/\w'.cell? ⟨w.heap.size,3,zb⟩=zc (.string t)/\w'.cell? ⟨w.heap.size+1,0,zb⟩=zc (ze .i64 5)/\w'.cell? ⟨w.heap.size+1,1,zb⟩=zc (.slice bH nd.set.length bI)/\w'.cell? ⟨w.heap.size+1,2,zb⟩=zc (ze .i64 nd.min)/\w'.cell? ⟨w.heap.size+1,3,zb⟩=zc (ze .i64 nd.max)/\w'.cell? ⟨w.heap.size+1,4,zb⟩=zc (ze .i64 nd.group)/\w'.cell? ⟨gl,n,zb⟩=zc (ze .i64 x)/\w'.cell? ⟨gr,n,zb⟩=zc (ze .i64 ri)/\gl<w.heap.size/\gr<w.heap.size) ((first|exact jE.call (show jE w (zf (zc ⟨b,o,zb⟩) ns.length c) (zf (zc ⟨gl,0,zb⟩) ns.length cl) (zf (zc ⟨gr,0,zb⟩) ns.length cr) (.string t) (ze .i64 5) (.slice bH nd.set.length bI) (ze .i64 nd.min) (ze .i64 nd.max) (ze .i64 nd.group) gl gr n (ze .i64 x) (ze .i64 ri) _ from by assumption) af|go_keep)) ((go_at_call 90;refine(cV _ (by first|exact H0.1|exact(‹zg w.heap.size w _/\_›).1)).mono ?_;rintro e w2 ⟨g2,c2,S2,rfl,mN,gW,cZ,af⟩))
 all_goals
  have j9:=‹zg w.heap.size w _/\_›;go_wp2;refine bD (v:=zf (zc ⟨g2,0,zb⟩) m c2) (by simp[results,results90,go_sem]) rfl ⟨g2,c2,S2,rfl,mN,gW,cZ,j9.1⟩
theorem zoF(ns:List aM)(n x mn:Nat)(hn:n<ns.length)(hk:bJ ns n=4)(hT:aK ns n=.aw (aK ns x) mn (ns.getD n .zero).max)(hL:lh ns n=x)(hX:jB ns x)(cO:(ns.getD n .zero).min=mn)(cD:mn<=255)(vQ:(ns.getD n .zero).max=-1\/((mn:Int)<=(ns.getD n .zero).max/\(ns.getD n .zero).max<=255)):jB ns n:=by
 intro w ao c gl cl gr cr t g cap m S F aB hS sZ hF ht;rw[hT];obtain⟨iG,fe,hv,AK,hc⟩:=aB.nodes;cases hv;obtain⟨b,o,sv,nd,rfl,Hn,bu,c0,c1,c2,c3,c4,di⟩:=hc.elem (Below.refl _ _) hn;have cM:nd.kind=4:=by rw[<-hk];unfold bJ;rw[Hn.out]
 rw[cM]at c0;obtain⟨bH,bI,rfl,hsm,jQ⟩:=di;rw[Hn.out]at cO vQ ⊢;rw[cO]at c2;have cV:=λ(W:zi) (hb:zg w.heap.size w W)=>zjx ns x hX W (zc ⟨b,o,zb⟩) c gl cl gr cr t g cap m S F mn nd.max (aB.below hb) (hS.below hb) sZ hF ht cD vQ
 have l0:=aB.left n hn;rw[hL]at l0;have r0:=aB.right n hn;obtain⟨ri,xz⟩:∃ri,oh ns n=ri:=⟨_,rfl⟩;rw[xz]at r0;have hlt:=aB.za;have hrt:=aB.zd;clear hk hT cM hc jQ aB hX hF xz cO cD vQ;have dO:(0:Int)<=(n:Int):=by omega
 have dh:(n:Int)<(ns.length:Int):=by omega
 have H0:=jE.new w (zf (zc ⟨b,o,zb⟩) ns.length c) (zf (zc ⟨gl,0,zb⟩) ns.length cl) (zf (zc ⟨gr,0,zb⟩) ns.length cr) (.string t) (ze .i64 4) (.slice bH nd.set.length bI) (ze .i64 (mn:Nat)) (ze .i64 nd.max) (ze .i64 nd.group) 119 149 hlt hrt l0 r0;have dr:=H0.1
 go_enter func90,ntmps90
 go_wp2
 go_region_held3 (λw'=>zg w.heap.size w w'/\w.heap.size+1<w'.heap.size/\w'.cell? ⟨w.heap.size,0,zb⟩=zc (zf (zc ⟨b,o,zb⟩) ns.length c)/\w'.cell? ⟨w.heap.size,1,zb⟩=zc (zf (zc ⟨gl,0,zb⟩) ns.length cl)/\w'.cell? ⟨w.heap.size,2,zb⟩=zc (zf (zc ⟨gr,0,zb⟩) ns.length cr)/\w'.cell? ⟨w.heap.size,3,zb⟩=zc (.string t)/\w'.cell? ⟨w.heap.size+1,0,zb⟩=zc (ze .i64 4)/\w'.cell? ⟨w.heap.size+1,1,zb⟩=zc (.slice bH nd.set.length bI)/\w'.cell? ⟨w.heap.size+1,2,zb⟩=zc (ze .i64 (mn:Nat))/\w'.cell? ⟨w.heap.size+1,3,zb⟩=zc (ze .i64 nd.max)/\w'.cell? ⟨w.heap.size+1,4,zb⟩=zc (ze .i64 nd.group)/\w'.cell? ⟨gl,n,zb⟩=zc (ze .i64 x)/\w'.cell? ⟨gr,n,zb⟩=zc (ze .i64 ri)/\gl<w.heap.size/\gr<w.heap.size) ((first|exact jE.call (show jE w (zf (zc ⟨b,o,zb⟩) ns.length c) (zf (zc ⟨gl,0,zb⟩) ns.length cl) (zf (zc ⟨gr,0,zb⟩) ns.length cr) (.string t) (ze .i64 4) (.slice bH nd.set.length bI) (ze .i64 (mn:Nat)) (ze .i64 nd.max) (ze .i64 nd.group) gl gr n (ze .i64 x) (ze .i64 ri) _ from by assumption) af|go_keep)) ((go_at_call 114;refine(cV _ (by first|exact dr|exact(‹zg w.heap.size w _/\_›).1)).mono ?_;rintro e w2 ⟨g2,c2,S2,rfl,mN,gW,cZ,af⟩))
 all_goals
  have j9:=‹zg w.heap.size w _/\_›;go_wp2;refine bD (v:=zf (zc ⟨g2,0,zb⟩) m c2) (by simp[results,results90,go_sem]) rfl ⟨g2,c2,S2,rfl,mN,gW,cZ,j9.1⟩
theorem zoG(ns:List aM)(n x y:Nat)(hn:n<ns.length)(hk:bJ ns n=2)(hT:aK ns n=.seq (aK ns x) (aK ns y))(hL:lh ns n=x)(hR:oh ns n=y)(hX:jB ns x)(hY:jB ns y):jB ns n:=by
 intro w ao c gl cl gr cr t g cap m S F aB hS sZ hF ht;rw[hT];obtain⟨iG,fe,hv,AK,hc⟩:=aB.nodes;cases hv;obtain⟨b,o,sv,nd,rfl,Hn,bu,c0,c1,c2,c3,c4,di⟩:=hc.elem (Below.refl _ _) hn;have cM:nd.kind=2:=by rw[<-hk];unfold bJ;rw[Hn.out]
 rw[cM]at c0;obtain⟨bH,bI,rfl,hsm,jQ⟩:=di;have cV:=λ(W:zi) (hb:zg w.heap.size w W)=>hX W (zc ⟨b,o,zb⟩) c gl cl gr cr t g cap m S F (aB.below hb) (hS.below hb) sZ hF ht
 have mP:=λ(W:zi) (hb:zg w.heap.size w W) (g cap:Nat) (C:List Bool) (P:Nat->Prop) (h1:ou W g C) (h2:C.length=m) (h3:lM t.size C P)=>hY W (zc ⟨b,o,zb⟩) c gl cl gr cr t g cap m C P (aB.below hb) h1 h2 h3 ht
 have l0:=aB.left n hn;rw[hL]at l0;have r0:=aB.right n hn;rw[hR]at r0;have hlt:=aB.za;have hrt:=aB.zd;clear hk hT cM hc jQ aB hX hY hF;have dO:(0:Int)<=(n:Int):=by omega
 have dh:(n:Int)<(ns.length:Int):=by omega
 have H0:=jE.new w (zf (zc ⟨b,o,zb⟩) ns.length c) (zf (zc ⟨gl,0,zb⟩) ns.length cl) (zf (zc ⟨gr,0,zb⟩) ns.length cr) (.string t) (ze .i64 2) (.slice bH nd.set.length bI) (ze .i64 nd.min) (ze .i64 nd.max) (ze .i64 nd.group) 119 149 hlt hrt l0 r0;have dr:=H0.1
 go_enter func90,ntmps90
 go_wp2
 go_region_held3 (λw'=>zg w.heap.size w w'/\w.heap.size+1<w'.heap.size/\w'.cell? ⟨w.heap.size,0,zb⟩=zc (zf (zc ⟨b,o,zb⟩) ns.length c)/\w'.cell? ⟨w.heap.size,1,zb⟩=zc (zf (zc ⟨gl,0,zb⟩) ns.length cl)/\w'.cell? ⟨w.heap.size,2,zb⟩=zc (zf (zc ⟨gr,0,zb⟩) ns.length cr)/\w'.cell? ⟨w.heap.size,3,zb⟩=zc (.string t)/\w'.cell? ⟨gl,n,zb⟩=zc (ze .i64 x)/\w'.cell? ⟨gr,n,zb⟩=zc (ze .i64 y)) ((first|exact E3 hlt hrt (by assumption) af|exact E3 hlt hrt (by assumption) ay|go_keep)) ((first|(have hgo:=mN;go_at_call 90;refine(mP _ (by first|exact dr|exact(‹zg w.heap.size w _/\_›).1) g2 c2 S2 _ hgo gW cZ).mono ?_;rintro e w3 ⟨g3,c3,S3,rfl,sU,S6,mh,ay⟩)|(go_at_call 90;refine(cV _ (by first|exact dr|exact(‹zg w.heap.size w _/\_›).1)).mono ?_;rintro e w2 ⟨g2,c2,S2,rfl,mN,gW,cZ,af⟩)))
 all_goals
  have j9:=‹zg w.heap.size w _/\_›;go_wp2;refine bD (v:=zf (zc ⟨g3,0,zb⟩) m c3) (by simp[results,results90,go_sem]) rfl ⟨g3,c3,S3,rfl,sU,S6,mh.congr λj=>(Po j).symm,j9.1⟩
theorem zoD(ns:List aM)(n x y:Nat)(hn:n<ns.length)(hk:bJ ns n=3)(hT:aK ns n=.aQ (aK ns x) (aK ns y))(hL:lh ns n=x)(hR:oh ns n=y)(hX:jB ns x)(hY:jB ns y):jB ns n:=by
 intro w ao c gl cl gr cr t g cap m S F aB hS sZ hF ht;rw[hT];obtain⟨iG,fe,hv,AK,hc⟩:=aB.nodes;cases hv;obtain⟨b,o,sv,nd,rfl,Hn,bu,c0,c1,c2,c3,c4,di⟩:=hc.elem (Below.refl _ _) hn;have cM:nd.kind=3:=by rw[<-hk];unfold bJ;rw[Hn.out]
 rw[cM]at c0;obtain⟨bH,bI,rfl,hsm,jQ⟩:=di;have cV:=λ(z:Nat) (W:zi) (hb:zg w.heap.size w W) (hz:z=x)=>(hz ▸ hX:jB ns z) W (zc ⟨b,o,zb⟩) c gl cl gr cr t g cap m S F (aB.below hb) (hS.below hb) sZ hF ht
 have mP:=λ(z:Nat) (W:zi) (hb:zg w.heap.size w W) (hz:z=y)=>(hz ▸ hY:jB ns z) W (zc ⟨b,o,zb⟩) c gl cl gr cr t g cap m S F (aB.below hb) (hS.below hb) sZ hF ht
 have AJ:m<=1048576:=by have:=hF.len;omega
 have l0:=aB.left n hn;rw[hL]at l0;have r0:=aB.right n hn;rw[hR]at r0;have hlt:=aB.za;have hrt:=aB.zd;clear hk hT cM hc jQ aB hX hY hF;have dO:(0:Int)<=(n:Int):=by omega
 have dh:(n:Int)<(ns.length:Int):=by omega
 have H0:=jE.new w (zf (zc ⟨b,o,zb⟩) ns.length c) (zf (zc ⟨gl,0,zb⟩) ns.length cl) (zf (zc ⟨gr,0,zb⟩) ns.length cr) (.string t) (ze .i64 3) (.slice bH nd.set.length bI) (ze .i64 nd.min) (ze .i64 nd.max) (ze .i64 nd.group) 119 149 hlt hrt l0 r0;have dr:=H0.1
 go_enter func90,ntmps90
 go_wp2
 go_region_held3 (λw'=>zg w.heap.size w w'/\w.heap.size+1<w'.heap.size/\w'.cell? ⟨w.heap.size,0,zb⟩=zc (zf (zc ⟨b,o,zb⟩) ns.length c)/\w'.cell? ⟨w.heap.size,1,zb⟩=zc (zf (zc ⟨gl,0,zb⟩) ns.length cl)/\w'.cell? ⟨w.heap.size,2,zb⟩=zc (zf (zc ⟨gr,0,zb⟩) ns.length cr)/\w'.cell? ⟨w.heap.size,3,zb⟩=zc (.string t)/\w'.cell? ⟨gl,n,zb⟩=zc (ze .i64 x)/\w'.cell? ⟨gr,n,zb⟩=zc (ze .i64 y)) ((first|exact E3 hlt hrt (by assumption) af|exact E3 hlt hrt (by assumption) ay|exact E3 hlt hrt (by assumption) aG|go_keep)) ((first|(go_at_call 113;refine(ztD m S2 S3 g2 g3 c2 c3 _ (by first|exact mN.below ay|exact mN) (by first|exact sU|exact sU.below af) gW S6 AJ).mono ?_;rintro e w4 ⟨rfl,hO,aG⟩)|(go_at_call 90;refine(cV _ _ (by first|exact dr|exact(‹zg w.heap.size w _/\_›).1) ?hz).mono ?_;(case hz=>exact rfl);rintro e w2 ⟨g2,c2,S2,rfl,mN,gW,cZ,af⟩)|(go_at_call 90;refine(mP _ _ (by first|exact dr|exact(‹zg w.heap.size w _/\_›).1) ?hz).mono ?_;(case hz=>exact rfl);rintro e w3 ⟨g3,c3,S3,rfl,sU,S6,mh,ay⟩)))
 all_goals
  have j9:=‹zg w.heap.size w _/\_›;go_wp2;refine bD (v:=zf (zc ⟨_,0,zb⟩) m m) (by simp[results,results90,go_sem]) rfl ⟨_,m,uP S2 S3,rfl,hO,by rw[Iw];exact gW,(zma cZ mh).congr λj=>(zqO j).symm,j9.1⟩
theorem Ma(ns:List aM)(ha:∀i,i<ns.length->bi (bJ ns i)<=(aN ns i).length)(hb:ns.all aX=true):∀n,n<ns.length->jB ns n:=by
 intro n
 induction n using Nat.strongRecOn with
 |ind n ih=>
  intro hn;have jP:aX (ns.getD n .zero)=true:=jl.1 hb (ns.getD n .zero) (by
   rw[cL,eY hn];exact oz _)
  have eB:=ha n hn;have cA:bJ ns n=(ns.getD n .zero).kind:=rfl
  by_cases h1:bJ ns n=1
  ·refine zoH ns n hn h1 ?_;unfold aK fY;rw[aD (by rw[<-cA];exact h1)]
  by_cases h2:bJ ns n=2
  ·obtain⟨x,y,hL,hR,hx,hy,hT⟩:=Ig (ns:=ns) (k:=n) (by rw[h2];rfl) (by rw[h2]at eB;exact eB);refine zoG ns n x y hn h2 ?_ hL hR (ih x hx (by omega)) (ih y hy (by omega));rw[hT];unfold fY;rw[aq (by rw[<-cA];exact h1),aD (by rw[<-cA];exact h2)]
   rfl
  by_cases h3:bJ ns n=3
  ·obtain⟨x,y,hL,hR,hx,hy,hT⟩:=Ig (ns:=ns) (k:=n) (by rw[h3];rfl) (by rw[h3]at eB;exact eB);refine zoD ns n x y hn h3 ?_ hL hR (ih x hx (by omega)) (ih y hy (by omega));rw[hT];unfold fY;rw[aq (by rw[<-cA];exact h1),aq (by rw[<-cA];exact h2),aD (by rw[<-cA];exact h3)]
   rfl
  by_cases h4:bJ ns n=4
  ·obtain⟨x,hL,hx,hT⟩:=If (ns:=ns) (k:=n) (by rw[h4];rfl) (by rw[h4]at eB;exact eB);have dZ:eK (ns.getD n .zero).min (ns.getD n .zero).max=true:=by
    unfold aX at jP;rw[aq (by rw[<-cA];exact h1),aq (by rw[<-cA];exact λh=>h.elim h2 h3),aD (by rw[<-cA];exact h4)]at jP;simp only[dE]at jP;exact jP.1.2
   simp[eK]at dZ;refine zoF ns n x (ns.getD n .zero).min.toNat hn h4 ?_ hL (ih x hx (by omega)) (by simp only[cL];omega) (by simp only[cL];omega) (by simp only[cL];omega);rw[hT];unfold fY;rw[aq (by rw[<-cA];exact h1),aq (by rw[<-cA];exact h2),aq (by rw[<-cA];exact h3),aD (by rw[<-cA];exact h4)];have:(((ns.getD n .zero).min.toNat:Nat):Int)=(ns.getD n .zero).min:=by simp only[cL];omega
   rw[this]
   rfl
  have h5:bJ ns n=5:=by
   by_cases h5:bJ ns n=5
   ·exact h5
   ·exfalso
    unfold aX at jP;rw[aq (by rw[<-cA];exact h1),aq (by rw[<-cA];exact λh=>h.elim h2 h3),aq (by rw[<-cA];exact h4),aq (by rw[<-cA];exact h5)]at jP;cases jP
  obtain⟨x,hL,hx,hT⟩:=If (ns:=ns) (k:=n) (by rw[h5];rfl) (by rw[h5]at eB;exact eB);refine zoE ns n x hn h5 ?_ hL (ih x hx (by omega));rw[hT];unfold fY;rw[aq (by rw[<-cA];exact h1),aq (by rw[<-cA];exact h2),aq (by rw[<-cA];exact h3),aq (by rw[<-cA];exact h4)]
  rfl
end
section
open Go.RowKit
attribute [local go_sem ↓] wp_at_zero wp_at_succ
def Bd(aV bm:Bool)(n:Nat)(a e:Nat)(cl:Bool):Bool:=!(aV && !(a==0))&&(!bm || (cl&&e==n))
theorem zpL(aV bm cl:Bool)(ao:Option Addr)(k c:Nat)(t:ByteArray)(a e:Nat)(w:zi):
  zl prog 89 #[zj #[.bool aV,.bool bm,.slice ao k c],.string t,ze .i64 a,ze .i64 e,.bool cl] w λr w'=>r=.returned (.bool (Bd aV bm t.size a e cl))/\zg w.heap.size w w':=by
 have hb:zg w.heap.size w (w.alloc (zh #[.bool aV,.bool bm,.slice ao k c] 115)):=au;have h0:((a:Int) != 0)=!(a==0):=by
  by_cases h:a=0
  ·subst h;rfl
  ·have:((a:Int) != 0)=true:=by simp;omega
   rw[this];simp;omega
 have h1:((e:Int)==(t.size:Int))=(e==t.size):=by
  by_cases h:e=t.size
  ·subst h;simp
  ·have:((e:Int)==(t.size:Int))=false:=by simp;omega
   rw[this];simp;omega
 have Hp:Hid (Bd aV bm t.size a e cl=(!(aV && !(a==0))&&(!bm || (cl&&e==t.size)))):=rfl;cases hz:(a==0)<;>cases he:(e==t.size)<;>cases aV<;>cases bm<;>cases cl
 all_goals
  rw[hz]at h0 Hp;rw[he]at h1 Hp
  go_enter func89,ntmps89
  go_wp2;go_ret;exact⟨bF Hp.out.symm,hb⟩
theorem zmz{lo:Nat}(aV bm:Bool)(ao:Option Addr)(c:Nat)(ns:List aM)(t:ByteArray)(w:zi)(hs:dU lo w (.slice ao ns.length c) ns)(hn:ns.length<=1048576)(hk:jW ns=true):
  zl prog 67 #[zj #[.bool aV,.bool bm,.slice ao ns.length c],.string t] w λr w'=>zg w.heap.size w w'/\∃gl cl gr cr,r=.returned (zj #[.slice ao ns.length c,zf (zc ⟨gl,0,zb⟩) ns.length cl,zf (zc ⟨gr,0,zb⟩) ns.length cr,.string t])/\vq w' ns (.slice ao ns.length c) gl gr:=by
 have hb:zg w.heap.size w ((w.alloc (zh #[.bool aV,.bool bm,.slice ao ns.length c] 115)).alloc (zh #[zf zb 0 0,zf zb 0 0,zf zb 0 0,.string ⟨#[]⟩] 119)):=(au).alloc (by simp) _;have zxW:=λ(W:zi) (hb:zg w.heap.size w W)=>WH _ ns W (hs.below hb) hn
 go_enter func67,ntmps67
 go_wp2_with fail
 refine(zxW _ hb).mono ?_;rintro e w1 ⟨ak,h|⟨-,gl,cl,gr,cr,rfl,ol,Us,-⟩⟩
 ·rw[hk]at h;cases h.1
 have k0:((w.alloc (zh #[.bool aV,.bool bm,.slice ao ns.length c] 115)).alloc (zh #[zf zb 0 0,zf zb 0 0,zf zb 0 0,.string ⟨#[]⟩] 119)).heap[w.heap.size]?=zc (zh #[.bool aV,.bool bm,.slice ao ns.length c] 115 (0,0)):=cQ (aL _ _);have k1:((w.alloc (zh #[.bool aV,.bool bm,.slice ao ns.length c] 115)).alloc (zh #[zf zb 0 0,zf zb 0 0,zf zb 0 0,.string ⟨#[]⟩] 119)).heap[w.heap.size+1]?=zc (zh #[zf zb 0 0,zf zb 0 0,zf zb 0 0,.string ⟨#[]⟩] 119 (0,0)):=by have:=aL (w.alloc (zh #[.bool aV,.bool bm,.slice ao ns.length c] 115)) (zh #[zf zb 0 0,zf zb 0 0,zf zb 0 0,.string ⟨#[]⟩] 119);simpa using this
 have p0:=ia k0 ak;have p1:=ia k1 ak;have q0:=(aO _ _ _ _ _ _ p0:w1.cell? ⟨w.heap.size,2,zb⟩=_);simp at q0;obtain⟨d0,d1,d2,d3⟩:=gC p1;have f0:w1.frozen? ⟨w.heap.size+1,0,zb⟩=false:=by simp[World.frozen?,p1]
 have f1:w1.frozen? ⟨w.heap.size+1,1,zb⟩=false:=by simp[World.frozen?,p1]
 have f2:w1.frozen? ⟨w.heap.size+1,2,zb⟩=false:=by simp[World.frozen?,p1]
 have f3:w1.frozen? ⟨w.heap.size+1,3,zb⟩=false:=by simp[World.frozen?,p1]
 go_wp2;have cX:zg w.heap.size w ((((w1.setCell ⟨w.heap.size+1,0,zb⟩ (.slice ao ns.length c)).setCell ⟨w.heap.size+1,1,zb⟩ (zf (zc ⟨gl,0,zb⟩) ns.length cl)).setCell ⟨w.heap.size+1,2,zb⟩ (zf (zc ⟨gr,0,zb⟩) ns.length cr)).setCell ⟨w.heap.size+1,3,zb⟩ (.string t)):=by
  iterate 4 refine Below.setCell ?_ (by simp) _
  exact aj hb hb.size ak
 have fC:=(qc ol).1;have cR:=(qc Us).1;simp only[World.size_alloc]at fC cR;have hcell:∀g o,g≠w.heap.size+1->((((w1.setCell ⟨w.heap.size+1,0,zb⟩ (.slice ao ns.length c)).setCell ⟨w.heap.size+1,1,zb⟩ (zf (zc ⟨gl,0,zb⟩) ns.length cl)).setCell ⟨w.heap.size+1,2,zb⟩ (zf (zc ⟨gr,0,zb⟩) ns.length cr)).setCell ⟨w.heap.size+1,3,zb⟩ (.string t)).cell? ⟨g,o,zb⟩=w1.cell? ⟨g,o,zb⟩:=λg o hg=>
  World.cell?_of_block (w:=w1) (by rw[Below.heap_setCell _ _ _ _ hg,Below.heap_setCell _ _ _ _ hg,Below.heap_setCell _ _ _ _ hg,Below.heap_setCell _ _ _ _ hg])
 refine bD (v:=zj #[.slice ao ns.length c,zf (zc ⟨gl,0,zb⟩) ns.length cl,zf (zc ⟨gr,0,zb⟩) ns.length cr,.string t]) (by simp[results,results67,go_sem,d0,d1,d2,d3]) rfl ⟨cX,gl,cl,gr,cr,rfl,(hs.below cX).mono (aZ _),?_,?_,λi hi=>?_,λi hi=>?_⟩
 ·have:=qd ol;simpa [World.setCell]using this
 ·have:=qd Us;simpa [World.setCell]using this
 ·rw[hcell gl i (by omega),ol.cellAt i (by omega)];simp[rV,hi]
 ·rw[hcell gr i (by omega),Us.cellAt i (by omega)];simp[rW,hi]
end
section
open Go.RowKit
attribute [local go_sem ↓] wp_at_zero wp_at_succ
def iu(b:aW)(t:ByteArray)(a e:Nat)(cl:Bool):Prop:=Bd b.aV b.bm t.size a e cl=true/\In (aK b.nodes (b.nodes.length-1)) ((t.data.toList.drop a).take (e-a))
def PW(w:zi)(P:Prop)(r:Ending)(w':zi):Prop:=∃b:Bool,r=.returned (.bool b)/\(b=true↔P)/\zg w.heap.size w w'
theorem zr8{w a b c d:zi}(h:zg w.heap.size w a)(h1:zg a.heap.size a b)(h2:zg b.heap.size b c)(h3:zg c.heap.size c d):zg w.heap.size w d:=by
 have k1:=aj h h.size h1;have k2:=aj k1 k1.size h2;exact aj k2 k2.size h3
theorem zhL{lo:Nat}(bd:aW)(ao:Option Addr)(c:Nat)(t:ByteArray)(a e:Nat)(cl:Bool)(w:zi)(hs:dU lo w (.slice ao bd.nodes.length c) bd.nodes)(hn:bd.nodes.length<=1048576)(hk:jW bd.nodes=true)(pO:bd.nodes.all aX=true)
  (ha:∀i,i<bd.nodes.length->bi (bJ bd.nodes i)<=(aN bd.nodes i).length) (gX:0<bd.nodes.length) (Gu:a<=e) (GD:e<=t.size) (ht:t.size<=4096):
  zl prog 65 #[zj #[.bool bd.aV,.bool bd.bm,.slice ao bd.nodes.length c],.string t,ze .i64 a,ze .i64 e,.bool cl] w λr w'=>PW w (iu bd t a e cl) r w':=by
 obtain⟨aV,bm,ns⟩:=bd;unfold iu;dsimp only at *;have ae:zg w.heap.size w (w.alloc (zh #[.bool aV,.bool bm,.slice ao ns.length c] 115)):=au;have k0:(w.alloc (zh #[.bool aV,.bool bm,.slice ao ns.length c] 115)).heap[w.heap.size]?=zc (zh #[.bool aV,.bool bm,.slice ao ns.length c] 115 (0,0)):=aL _ _;have hE:=Ma ns ha pO (ns.length-1) (by omega);have zxX:=λ(W:zi) (hb:zg w.heap.size w W)=>zmz aV bm ao c ns t W (hs.below hb) hn hk
 have JQ:=λ(W:zi)=>WQ t.size a W (by omega) (by omega)
 have JM:∀(z:Int) (W:zi) (gl cl gr cr g:Nat),z=((ns.length-1:Nat):Int)->vq W ns (.slice ao ns.length c) gl gr->ou W g (qQ t.size a)->
   zl prog 90 #[zj #[.slice ao ns.length c,zf (zc ⟨gl,0,zb⟩) ns.length cl,zf (zc ⟨gr,0,zb⟩) ns.length cr,.string t],ze .i64 z,zf (zc ⟨g,0,zb⟩) (t.size+1) (t.size+1)] W λr w'=>Mp W t (t.size+1) (fX t.data.toList (In (aK ns (ns.length-1))) (· = a)) r w':=by
  intro z W gl cl gr cr g hz h1 h2;subst hz;exact hE W ao c gl cl gr cr t g (t.size+1) (t.size+1) (qQ t.size a) _ h1 h2 (by simp[qQ]) (Vu t.size a (by omega)) ht
 have jx:∀z:Int,z=IntKind.i64.wrap ((ns.length:Int)-1)->z=((ns.length-1:Nat):Int):=λz h=>by rw[h,IntKind.wrap_i64];omega
 clear hE ha pO hk hs;have du:=λ(W:zi)=>zpL aV bm cl ao ns.length c t a e W
 have HT:Hid (∀j,fX t.data.toList (In (aK ns (ns.length-1))) (· = a) j↔(a<=j/\j<=t.size)/\In (aK ns (ns.length-1)) ((t.data.toList.drop a).take (j-a))):=λj=>by
  constructor
  ·rintro ⟨i,rfl,h1,h2,h3⟩;exact⟨⟨h1,by simpa using h2⟩,h3⟩
  ·rintro ⟨⟨h1,h2⟩,h3⟩;exact⟨a,rfl,h1,by simpa using h2,h3⟩
 generalize In (aK ns (ns.length-1))=L at *
 go_enter func65,ntmps65
 go_wp2_with fail
 refine(du _).mono ?_;rintro r w1 ⟨rfl,ak⟩;have p0:=ia k0 ak;have iU:=aj ae ae.size ak;have hq:∀o,w1.cell? ⟨w.heap.size,o,zb⟩=#[Value.bool aV,.bool bm,.slice ao ns.length c][o]?:=λ_=>aO _ _ _ _ _ _ p0
 have q0:w1.cell? ⟨w.heap.size,0,zb⟩=zc (.bool aV):=hq 0;have q1:w1.cell? ⟨w.heap.size,1,zb⟩=zc (.bool bm):=hq 1;have q2:w1.cell? ⟨w.heap.size,2,zb⟩=zc (.slice ao ns.length c):=hq 2;have ju:=uV p0;clear hq du ak ae k0;cases hp:Bd aV bm t.size a e cl
 ·go_wp2;go_ret;exact⟨false,rfl,by rw[hp];simp,iU⟩
 have Jy:=iU.drew;have dO:(0:Int)<=(e:Int):=by omega
 have dh:(e:Int)<(t.size:Int)+1:=by omega
 go_wp2
 go_region_with (first|(go_at_call 67;refine(zxX _ (by first|exact Jy|exact aj Jy Jy.size ay)).mono ?_;rintro r w2 ⟨af,gl,Rx,gr,cr,rfl,aB⟩;have dL:=af.size;have y0:=(af.cell (p:=⟨w.heap.size,0,zb⟩) (by first|exact ju|exact bA ju ql)).trans (by first|exact q0|exact z0);have y1:=(af.cell (p:=⟨w.heap.size,1,zb⟩) (by first|exact ju|exact bA ju ql)).trans (by first|exact q1|exact z1);have y2:=(af.cell (p:=⟨w.heap.size,2,zb⟩) (by first|exact ju|exact bA ju ql)).trans (by first|exact q2|exact z2))|(go_at_call 91;refine(JQ _).mono ?_;rintro r w3 ⟨rfl,sU,ay⟩;have ql:=ay.size;have z0:=(ay.cell (p:=⟨w.heap.size,0,zb⟩) (by first|exact ju|exact bA ju dL)).trans (by first|exact q0|exact y0);have z1:=(ay.cell (p:=⟨w.heap.size,1,zb⟩) (by first|exact ju|exact bA ju dL)).trans (by first|exact q1|exact y1);have z2:=(ay.cell (p:=⟨w.heap.size,2,zb⟩) (by first|exact ju|exact bA ju dL)).trans (by first|exact q2|exact y2))|(go_at_call 90;refine(JM _ _ gl Rx gr cr _ (by first|rfl|exact jx _ rfl) (by first|exact aB.below ay|exact aB) (by first|exact sU|exact sU.below af)).mono ?_;rintro r w4 ⟨g4,c4,S4,rfl,pG,hl4,pP,aG⟩;have hcell:=pG.2 e (by omega);obtain⟨q,hq⟩:∃q,S4.getD e false=q:=⟨_,rfl⟩;rw[hq]at hcell;have Hq:Hid _:=hq;clear hq;have zxo:zg w.heap.size w w4:=by first|exact zr8 Jy af ay aG|exact zr8 Jy ay af aG))
 all_goals
  have nU:q=true↔L ((t.data.toList.drop a).take (e-a)):=by
   rw[<-Hq.out];exact(pP.iff e).trans ((HT.out e).trans ⟨λh=>h.2,λh=>⟨⟨Gu,GD⟩,h⟩⟩)
  go_wp2;go_ret;exact⟨q,rfl,nU.trans ⟨λh=>⟨hp,h⟩,λh=>h.2⟩,zxo⟩
end
section
variable {lo:Nat}
open Go.RowKit
theorem O8(ns:List aM)(h:jW ns=true):0<ns.length/\∀i,i<ns.length->bi (bJ ns i)<=(aN ns i).length:=by
 have h1:nB ns 0=zc 1:=eq_of_beq h;have key:∀k,k<=ns.length->nB (ns.drop k) (aN ns k).length=zc 1/\∀i,i<k->bi (bJ ns i)<=(aN ns i).length:=by
  intro k
  induction k with
  |zero=>intro _;exact⟨h1,λi hi=>absurd hi (dk _)⟩
  |succ k ih=>
   intro hk;obtain⟨e,hs⟩:=ih (by omega);rw[zhY ns k (by omega) _ _ rfl]at e
   by_cases hc:(aN ns k).length<bi (bJ ns k)
   ·rw[aD hc]at e;cases e
   ·rw[aq hc]at e;refine⟨by rw[WC];exact e,λi hi=>?_⟩
    by_cases GK:i=k
    ·subst GK;omega
    ·exact hs i (by omega)
 refine⟨?_,(key ns.length (ai _)).2⟩;rcases Fz ns.length with h0|h0
 ·have:ns=[]:=Bu h0;subst this;cases h1
 ·exact h0
def nD(G:Int)(bs:List aW)(t:ByteArray)(a e:Int):Bool:=gD G bs&&decide (t.size<=4096/\0<=a/\a<=e/\e<=t.size)
theorem zkn(G:Int)(v:zk)(bs:List aW)(t:ByteArray)(a e:Int)(w:zi)(hs:eh lo w v bs)(hsm:Small bs):
  zl prog 64 #[zj #[v,ze .i64 G],.string t,ze .i64 a,ze .i64 e] w λr w'=>r=.returned (.bool (nD G bs t a e))/\zg w.heap.size w w':=by
 have bX:=hs;obtain⟨ao,cap,rfl,hm,hc⟩:=hs;have ae:zg w.heap.size w (w.alloc (zh #[.slice ao bs.length cap,ze .i64 G] 69)):=au;have Hp:Hid (nD G bs t a e=(gD G bs&&decide (t.size<=4096/\0<=a/\a<=e/\e<=t.size))):=rfl;have hr:=zfd G _ bs _ (bX.below ae) hsm;clear hc bX hsm;generalize gD G bs=q at *
 go_enter func64,ntmps64
 go_wp2_with fail
 refine hr.mono ?_;rintro r w1 ⟨rfl,ak⟩;have bl:=aj ae ae.size ak;clear hr ak ae;cases q
 ·go_wp2;go_ret;exact⟨bF (by rw[Hp.out];rfl),bl⟩
 by_cases h1:(t.size:Int)<=4096
 ·by_cases h2:0<=a
  ·by_cases h3:a<=e
   ·by_cases h4:e<=(t.size:Int)
    ·go_wp2;go_ret;exact⟨bF (by rw[Hp.out,kM];first|exact(decide_eq_true (by omega)).symm|exact(decide_eq_false (by omega)).symm|(rw[decide_eq_decide];omega)),bl⟩
    ·go_wp2;go_ret;exact⟨bF (by rw[Hp.out,kM];first|exact(decide_eq_true (by omega)).symm|exact(decide_eq_false (by omega)).symm|(rw[decide_eq_decide];omega)),bl⟩
   ·go_wp2;go_ret;exact⟨bF (by rw[Hp.out,kM];first|exact(decide_eq_true (by omega)).symm|exact(decide_eq_false (by omega)).symm|(rw[decide_eq_decide];omega)),bl⟩
  ·go_wp2;go_ret;exact⟨bF (by rw[Hp.out,kM];first|exact(decide_eq_true (by omega)).symm|exact(decide_eq_false (by omega)).symm|(rw[decide_eq_decide];omega)),bl⟩
 ·go_wp2;go_ret;exact⟨bF (by rw[Hp.out,kM];first|exact(decide_eq_true (by omega)).symm|exact(decide_eq_false (by omega)).symm|(rw[decide_eq_decide];omega)),bl⟩
def sj(G:Int)(bs:List aW)(t:ByteArray)(a e:Int)(cl:Bool):Prop:=nD G bs t a e=true/\∃k,k<bs.length/\iu (bs.getD k .zero) t a.toNat e.toNat cl
theorem zlK(G:Int)(v:zk)(bs:List aW)(t:ByteArray)(a e:Int)(cl:Bool)(w:zi)(hs:eh lo w v bs)(hsm:Small bs):
  zl prog 32 #[zj #[v,ze .i64 G],.string t,ze .i64 a,ze .i64 e,.bool cl] w λr w'=>PW w (sj G bs t a e cl) r w':=by
 have bX:=hs;obtain⟨ao,cap,rfl,hm,hc⟩:=hs;have ae:zg w.heap.size w (w.alloc (zh #[.slice ao bs.length cap,ze .i64 G] 69)):=au;have k0:(w.alloc (zh #[.slice ao bs.length cap,ze .i64 G] 69)).heap[w.heap.size]?=zc (zh #[.slice ao bs.length cap,ze .i64 G] 69 (0,0)):=aL _ _;have hr:=zkn G _ bs t a e _ (bX.below ae) hsm;clear bX
 go_enter func32,ntmps32
 go_wp2_with fail
 refine hr.mono ?_;rintro r w1 ⟨rfl,ak⟩;have bl:=aj ae ae.size ak;have p0:=ia k0 ak;have q0:w1.cell? ⟨w.heap.size,0,zb⟩=zc (.slice ao bs.length cap):=(aO _ _ _ _ _ _ p0:w1.cell? ⟨w.heap.size,0,zb⟩=_);clear hr ak ae k0;cases hq:nD G bs t a e
 ·go_wp2;go_ret;refine⟨false,rfl,⟨λh=>(Bool.false_ne_true h).elim,λh=>?_⟩,bl⟩;have:=h.1;rw[hq]at this;exact this
 have tn:=hq;unfold nD gD at tn;simp only[dE,oD]at tn;obtain⟨⟨⟨⟨⟨⟨⟨ak,-⟩,-⟩,db⟩,-⟩,-⟩,-⟩,ht,Cj,Gu,GD⟩:=tn;obtain⟨a',rfl⟩:∃a':Nat,a=a':=⟨a.toNat,by omega⟩;obtain⟨e',rfl⟩:∃e':Nat,e=e':=⟨e.toNat,by omega⟩;have fT:=λ(k:Nat) (hk:k<bs.length) (W:zi) (ao:Option Addr) (c:Nat) (h:dU lo W (.slice ao (bs.getD k .zero).nodes.length c) (bs.getD k .zero).nodes)=>by
  have yV:bs.getD k .zero∈bs:=by rw[cL,eY hk];exact oz _
  have im:=jl.1 db _ yV;simp only[dE]at im;have hst:=O8 _ im.1;exact zhL (bs.getD k .zero) ao c t a' e' cl W h (hsm.2 k hk).1 im.1 im.2 hst.2 hst.1 (by omega) (by omega) ht
 have Hq:Hid _:=hq;have hlen:=hsm.1;clear db hsm hq;go_wp2
 go_loopw [22] (λi wr=>∃k:Nat,k<=bs.length/\i=ze .i64 k/\zg w.heap.size w wr/\Hid (∀j,j<k->¬iu (bs.getD j .zero) t a' e' cl))
  (λi _=>bs.length-(intOf i).toNat)
 case atStart=>exact⟨0,aZ _,rfl,bl,λj hj=>absurd hj (dk _)⟩
 case round=>
  obtain⟨k,hk,rfl,hb,HN⟩:=hrel
  by_cases hlt:k<bs.length
  ·obtain⟨b,o,nv,bd,rfl,Hn,bu,c0,c1,c2,io⟩:=hc.elem hb hlt;have jM:=fT k hlt;rw[Hn.out]at jM;obtain⟨dC,jd,rfl,kz,kU⟩:=io;have io:dU lo wr (.slice dC bd.nodes.length jd) bd.nodes:=⟨dC,jd,rfl,kz,kU⟩;have bB:zg w.heap.size w (wr.alloc (zh #[.bool bd.aV,.bool bd.bm,.slice dC bd.nodes.length jd] 115)):=hb.alloc hb.size _;have N2:=jM _ dC jd (io.below (w':=wr.alloc (zh #[.bool bd.aV,.bool bd.bm,.slice dC bd.nodes.length jd] 115)) (au));clear jM fT kU hc io;have HB:Hid (iu (bs.getD k .zero) t a' e' cl=iu bd t a' e' cl):=by show _=_;rw[Hn.out]
   go_wp2_with fail
   refine N2.mono ?_;rintro r w2 ⟨q,rfl,nU,af⟩;have dL:=aj bB bB.size af;cases q
   ·go_wp2
    go_roundw
    case rel=>exact⟨k+1,by omega,by go_num,dL,λj hj=>by
     by_cases ej:j=k
     ·subst ej;rw[HB.out,<-nU];simp
     ·exact HN.out j (by omega)⟩
    case measure=>simp[intOf];omega
   ·go_wp2;go_ret;exact⟨true,rfl,⟨λ_=>⟨Hq.out,k,hlt,by rw[show (a':Int).toNat=a' by omega,show (e':Int).toNat=e' by omega,HB.out];first|exact nU.1 rfl|exact nU.1 trivial⟩,λ_=>rfl⟩,dL⟩
  ·go_wp2;go_ret;refine⟨false,rfl,⟨λh=>(Bool.false_ne_true h).elim,?_⟩,hb⟩;rintro ⟨-,j,hj,h⟩;rw[show (a':Int).toNat=a' by omega,show (e':Int).toNat=e' by omega]at h;exact absurd h (HN.out j (by omega))
end
section
variable {b:Pt}{w w':zi}{L:aJ -> Prop}{u:aJ}{mx:Int}
open Go.RowKit
def aR(w:zi):zk->Pt->Prop
 |v,.set f=>∃mg:Nat,v=.iface 297 (zj #[.pointer (zc ⟨mg,0,zb⟩)])/\w.heap[mg]?=zc (zh (dv f) 293 (0,0))
 |v,.seq l r=>∃lv rv,v=.iface 256 (zj #[lv,rv])/\aR w lv l/\aR w rv r
 |v,.aQ l r=>∃lv rv,v=.iface 258 (zj #[lv,rv])/\aR w lv l/\aR w rv r
 |v,.aw b mn mx=>∃lv,v=.iface 261 (zj #[lv,ze .i64 mn,ze .i64 mx])/\aR w lv b/\eK mn mx=true
 |v,.aT b g=>∃lv,v=.iface 264 (zj #[lv,ze .i64 g])/\aR w lv b
def bR(w w':zi):Prop:=∀(mg:Nat) (f:Nat->Bool),w.heap[mg]?=zc (zh (dv f) 293 (0,0))->w'.heap[mg]?=zc (zh (dv f) 293 (0,0))
theorem bR.trans{a b c:zi}(h:bR a b)(k:bR b c):bR a c:=λmg f e=>k mg f (h mg f e)
theorem bR.of(h:zg w.heap.size w w'):bR w w':=λmg _ e=>(h.block mg (ap.1 e).1).trans e
theorem bR.grown{g:Nat}{cs:Array zk}{t:TypeId}{fr:Nat×Nat}(h:w.grownBy w' (zc g))(hg:w.heap[g]?=zc (zh cs t fr))(ht:t≠293):bR w w':=λmg f e=>by
 refine(h.block mg (ap.1 e).1 (λq=>?_)).trans e;cases q;rw[hg]at e;cases e;exact ht rfl
theorem aR.keep(hk:bR w w'):∀(p:Pt) (v:zk),aR w v p->aR w' v p
 |.set f,_,⟨mg,h1,h2⟩=>⟨mg,h1,hk mg f h2⟩
 |.seq l r,_,⟨lv,rv,h1,h2,h3⟩=>⟨lv,rv,h1,aR.keep hk l lv h2,aR.keep hk r rv h3⟩
 |.aQ l r,_,⟨lv,rv,h1,h2,h3⟩=>⟨lv,rv,h1,aR.keep hk l lv h2,aR.keep hk r rv h3⟩
 |.aw b _ _,_,⟨lv,h1,h2,h3⟩=>⟨lv,h1,aR.keep hk b lv h2,h3⟩
 |.aT b _,_,⟨lv,h1,h2⟩=>⟨lv,h1,aR.keep hk b lv h2⟩
def aF:Pt->Int
 |.set _=>1
 |.seq l r=>cJ (aF l+aF r)
 |.aQ l r=>cJ (aF l+aF r)
 |.aw b mn mx=>cJ (aF b*dV mn mx)
 |.aT b _=>aF b
theorem Pow.many{M:aJ->Prop}(h:∀u,M u->∃j,Pow L j u):∀(k:Nat) (u:aJ),Pow M k u->∃j,Pow L j u
 |0,_,hu=>⟨0,hu⟩
 |k+1,_,⟨a,b,e,ha,hb⟩=>by
  obtain⟨i,hi⟩:=h a ha;obtain⟨j,hj⟩:=Pow.many h k b hb;exact⟨i+j,by rw[e];exact hi.add i j hj⟩
theorem WR(h:L u):Pow L 1 u:=⟨u,[],by simp,h,rfl⟩
theorem zsY(h:Pow L 1 u):L u:=by
 obtain⟨x,y,rfl,hx,hy⟩:=h;cases hy
 simpa using hx
theorem Wh(h:gK 0 mx=true)(u:aJ):In (.aw b 0 mx) u↔∃k:Nat,(mx=-1\/k<=1)/\Pow (In b) k u:=by
 have hm:mx=1\/mx=-1:=by simpa [gK]using h
 constructor
 ·rintro ⟨k,_,h2,h3⟩;exact⟨k,by omega,h3⟩
 ·rintro ⟨k,h2,h3⟩;exact⟨k,by omega,by omega,h3⟩
theorem zf2{lH eI mn:Int}(h1:gK lH eI=true)(h2:gK mn mx=true)(u:aJ):In (.aw b 0 (if eI<=mx then eI else mx)) u↔In (.aw (.aw b lH eI) mn mx) u:=by
 have e1:lH=0:=by simp[gK]at h1;exact h1.1
 have e2:mn=0:=by simp[gK]at h2;exact h2.1
 subst e1 e2;have cO:eI=1\/eI=-1:=by simpa [gK]using h1
 have cD:mx=1\/mx=-1:=by simpa [gK]using h2
 rw[Wh (VR h1 h2),Wh h2];have hi:∀u,In (.aw b 0 eI) u↔_:=Wh h1;constructor
 ·rintro ⟨k,hk,hp⟩
  by_cases hx:eI=-1
  ·exact⟨1,.inr (ai _),WR ((hi u).2 ⟨k,.inl hx,hp⟩)⟩
  ·have mj:eI=1:=by omega
   by_cases uK:mx=-1
   ·refine⟨k,.inl uK,?_⟩;clear hk
    induction k generalizing u with
    |zero=>exact hp
    |succ k ih=>
     obtain⟨x,y,e,tz,hy⟩:=hp;exact⟨x,y,e,(hi x).2 ⟨1,.inr (ai _),WR tz⟩,ih y hy⟩
   ·have cM:k<=1:=by
     rcases hk with hk|hk
     ·rw[mj]at hk;split at hk<;>omega
     ·exact hk
    exact⟨1,.inr (ai _),WR ((hi u).2 ⟨k,.inr cM,hp⟩)⟩
 ·rintro ⟨k,hk,hp⟩
  by_cases hs:eI=-1\/mx=-1
  ·obtain⟨j,hj⟩:=Pow.many (L:=In b) (λu hu=>by obtain⟨j,_,hj⟩:=(hi u).1 hu;exact⟨j,hj⟩) k u hp;exact⟨j,.inl (by split<;>omega),hj⟩
  ·have cM:k<=1:=by omega
   match k,cM,hp with
   |0,_,hp=>exact⟨0,.inr (by omega),hp⟩
   |1,_,hp=>
    obtain⟨j,Eh,hj⟩:=(hi u).1 (zsY hp);exact⟨j,.inr (by omega),hj⟩
theorem zjO{p q:Pt}(h:∀u,In p u↔In q u)(mn mx:Int)(u:aJ):In (.aw p mn mx) u↔In (.aw q mn mx) u:=
 exists_congr λk=>and_congr_right λ_=>and_congr_right λ_=>Pow.congr h k u
end
variable {u:aJ}{p q b:Pt}{i j:Nat}{mx:Int}{P:Nat -> Prop}
def Lg(u:aJ)(p:Pt)(i j:Nat):Prop:=i<=j/\j<=u.length/\In p ((u.drop i).take (j-i))
theorem zpf:Lg u p i j↔fX u (In p) (· = i) j:=
 ⟨λh=>⟨i,rfl,h⟩,λ⟨_,e,h⟩=>by subst e;exact h⟩
theorem tK(h:∀w,In p w↔In q w){i j:Nat}:Lg u p i j↔Lg u q i j:=and_congr_right λ_=>and_congr_right λ_=>h _
theorem Xb:Lg u (.seq p q) i j↔∃k,Lg u p i k/\Lg u q k j:=by
 rw[zpf];refine(Po (L:=In p) (M:=In q) j).trans ?_;constructor
 ·rintro ⟨k,⟨_,rfl,h⟩,h2⟩;exact⟨k,h,h2⟩
 ·rintro ⟨k,h,h2⟩;exact⟨k,⟨i,rfl,h⟩,h2⟩
theorem Xa:Lg u (.aQ p q) i j↔Lg u p i j\/Lg u q i j:=by
 constructor
 ·rintro ⟨h1,h2,h|h⟩
  ·exact .inl ⟨h1,h2,h⟩
  ·exact .inr ⟨h1,h2,h⟩
 ·rintro (⟨h1,h2,h⟩|⟨h1,h2,h⟩)
  ·exact⟨h1,h2,.inl h⟩
  ·exact⟨h1,h2,.inr h⟩
def Cp(u:aJ)(b:Pt):Nat->Nat->Nat->Prop
 |0,i,j=>i=j
 |k+1,i,j=>∃m,Lg u b i m/\Cp u b k m j
theorem PP:∀(k i j:Nat),j<=u.length->((i<=j/\Pow (In b) k ((u.drop i).take (j-i)))↔Cp u b k i j)
 |0,i,j,hj=>by
  constructor
  ·rintro ⟨h1,h⟩;have h':(u.drop i).take (j-i)=[]:=h;have hlen:((u.drop i).take (j-i)).length=j-i:=by simp;omega
   rw[h']at hlen;simp only[oA]at hlen;show i=j;omega
  ·intro h;have h:i=j:=h;subst h;exact⟨ai _,by rw[zz];rfl⟩
 |k+1,i,j,hj=>by
  have e:=(Po (u:=u) (L:=In b) (M:=Pow (In b) k) (F:=(· = i)) j);constructor
  ·rintro ⟨h1,h⟩;obtain⟨m,⟨_,rfl,h2⟩,h3,_,h4⟩:=e.1 ⟨i,rfl,h1,hj,h⟩;exact⟨m,h2,(PP k m j hj).1 ⟨h3,h4⟩⟩
  ·rintro ⟨m,h2,h3⟩;obtain⟨h4,h5⟩:=(PP k m j hj).2 h3;obtain⟨_,e0,h6,_,h7⟩:=e.2 ⟨m,⟨i,rfl,h2⟩,h4,hj,h5⟩;subst e0;exact⟨h6,h7⟩
theorem wD{mn:Int}:Lg u (.aw b mn mx) i j↔j<=u.length/\∃k:Nat,mn<=k/\(mx=-1\/(k:Int)<=mx)/\Cp u b k i j:=by
 constructor
 ·rintro ⟨h1,h2,k,h3,h4,h5⟩;exact⟨h2,k,h3,h4,(PP k i j h2).1 ⟨h1,h5⟩⟩
 ·rintro ⟨h2,k,h3,h4,h5⟩;obtain⟨h1,h6⟩:=(PP k i j h2).2 h5;exact⟨h1,h2,k,h3,h4,h6⟩
def nF(P:Nat->Prop)(i j k:Nat):Prop:=i<=k/\k<=j/\P k/\∀m,k<m->m<=j->¬P m
theorem LS:∀(j:Nat),(∃k,i<=k/\k<=j/\P k)->∃k,nF P i j k
 |0,⟨k,h1,h2,h3⟩=>⟨k,h1,h2,h3,λm a b=>by omega⟩
 |j+1,⟨k,h1,h2,h3⟩=>by
  by_cases h:i<=j+1/\P (j+1)
  ·exact⟨j+1,h.1,ai _,h.2,λm a b=>by omega⟩
  ·have hk:k<=j:=by
    rcases gh j k with a|a
    ·obtain rfl:k=j+1:=by omega
     exact absurd ⟨h1,h3⟩ h
    ·exact a
   obtain⟨m,g1,g2,g3,g4⟩:=LS j ⟨k,h1,hk,h3⟩;refine⟨m,g1,by omega,g3,λx a b hx=>?_⟩;rcases gh j x with c|c
   ·obtain rfl:x=j+1:=by omega
    exact h ⟨by omega,hx⟩
   ·exact g4 x a c hx
theorem nF.congr{Q:Nat->Prop}{k:Nat}(h:nF P i j k)(he:∀m,i<=m->m<=j->(P m↔Q m)):nF Q i j k:=
 ⟨h.1,h.2.1,(he k h.1 h.2.1).1 h.2.2.1,λm a b hq=>h.2.2.2 m a b ((he m (by have:=h.1;omega) b).2 hq)⟩
abbrev Up:=Int×Nat×Nat
inductive ie (L:Nat->Nat->Prop) (R:Nat->Nat->List Up->Prop) (C:Nat->Int->Nat->Nat->Prop):Nat->Int->Nat->Nat->List Up->Prop
 |done (i j:Nat):ie L R C 0 0 i j []
 |pk (i:Nat):ie L R C 0 (-1) i i []
 |out (mx:Int) (i j:Nat) (h:0<mx) (hn:∀k,i<=k->k<=j->¬(L i k/\C 0 (mx-1) k j)):ie L R C 0 mx i j []
 |must (mn:Nat) (mx:Int) (i j k:Nat) (l1 l2:List Up) (h:nF (λk=>L i k/\C mn (if 0<mx then mx-1 else mx) k j) i j k) (h1:R i k l1) (h2:ie L R C mn (if 0<mx then mx-1 else mx) k j l2):ie L R C (mn+1) mx i j (l1++l2)
 |may (mx:Int) (i j k:Nat) (l1 l2:List Up) (hm:0<mx) (h:nF (λk=>L i k/\C 0 (mx-1) k j) i j k) (h1:R i k l1) (h2:ie L R C 0 (mx-1) k j l2):ie L R C 0 mx i j (l1++l2)
 |more (i j k:Nat) (l1 l2:List Up) (hi:i<j) (h:nF (λk=>L i k/\C 0 (-1) k j) (i+1) j k) (h1:R i k l1) (h2:ie L R C 0 (-1) k j l2):ie L R C 0 (-1) i j (l1++l2)
def Pl(u:aJ):Pt->Nat->Nat->List Up->Prop
 |.set _,_,_,l=>l=[]
 |.aT b g,i,j,l=>∃m,l=(g,i,j)::m/\Pl u b i j m
 |.seq p q,i,j,l=>∃k l1 l2,nF (λk=>Lg u p i k/\Lg u q k j) i j k/\Pl u p i k l1/\Pl u q k j l2/\l=l1++l2
 |.aQ p q,i,j,l=>(Lg u p i j/\Pl u p i j l)\/(¬Lg u p i j/\Pl u q i j l)
 |.aw b mn mx,i,j,l=>ie (Lg u b) (Pl u b) (λmn mx i j=>Lg u (.aw b mn mx) i j) mn.toNat mx i j l
theorem WA{mn:Nat}(hb:mx=-1\/(mn:Int)+1<=mx):Lg u (.aw b ((mn+1:Nat):Int) mx) i j↔∃k,Lg u b i k/\Lg u (.aw b mn (if 0<mx then mx-1 else mx)) k j:=by
 rw[wD];constructor
 ·rintro ⟨h2,k,h3,h4,h5⟩;obtain⟨n,rfl⟩:∃n,k=n+1:=⟨k-1,by omega⟩;obtain⟨m,h6,h7⟩:=h5;refine⟨m,h6,wD.2 ⟨h2,n,by omega,?_,h7⟩⟩;rcases h4 with rfl|h4
  ·left;decide
  ·right;split<;>omega
 ·rintro ⟨k,h1,h⟩;obtain⟨h2,n,h3,h4,h5⟩:=wD.1 h;refine⟨h2,n+1,by omega,?_,k,h1,h5⟩;rcases hb with rfl|hb
  ·left;rfl
  ·right
   rw[aD (by omega)]at h4;omega
theorem zsZ(hm:0<mx)(h:Lg u (.aw b 0 mx) i j):i=j\/∃k,Lg u b i k/\Lg u (.aw b 0 (mx-1)) k j:=by
 obtain⟨h2,k,h3,h4,h5⟩:=wD.1 h;cases k with
 |zero=>exact .inl h5
 |succ n=>
  obtain⟨m,h6,h7⟩:=h5;exact .inr ⟨m,h6,wD.2 ⟨h2,n,by omega,.inr (by rcases h4 with h4|h4<;>omega),h7⟩⟩
theorem zox:∀{k i j:Nat},Cp u b k i j->i<j->∃n m,n<k/\i<m/\Lg u b i m/\Cp u b n m j
 |0,i,j,h,dA=>absurd (show i=j from h) (by omega)
 |k+1,i,j,⟨m,h1,h2⟩,dA=>by
  by_cases hm:i<m
  ·exact⟨k,m,by omega,hm,h1,h2⟩
  ·obtain rfl:m=i:=by have:=h1.1;omega
   obtain⟨n,x,a,b,c,d⟩:=zox h2 dA;exact⟨n,x,by omega,b,c,d⟩
theorem zmH(dA:i<j)(h:Lg u (.aw b 0 (-1)) i j):∃k,i+1<=k/\Lg u b i k/\Lg u (.aw b 0 (-1)) k j:=by
 obtain⟨h2,k,h3,h4,h5⟩:=wD.1 h;obtain⟨n,m,_,h6,h7,h8⟩:=zox h5 dA;exact⟨m,h6,h7,wD.2 ⟨h2,n,by omega,.inl rfl,h8⟩⟩
theorem zl4(ih:∀i j,Lg u b i j->∃l,Pl u b i j l):∀(mn:Nat) (mx:Int),(mx=-1\/(mn:Int)<=mx)->∀i j,Lg u (.aw b mn mx) i j->∃l,ie (Lg u b) (Pl u b) (λmn mx i j=>Lg u (.aw b mn mx) i j) mn mx i j l
 |mn+1,mx,hb,i,j,h=>by
  obtain⟨k0,h1,h2⟩:=(WA (by omega)).1 h;obtain⟨k,hk⟩:=LS (P:=λk=>Lg u b i k/\Lg u (.aw b mn (if 0<mx then mx-1 else mx)) k j) (i:=i) j ⟨k0,h1.1,h2.1,h1,h2⟩;obtain⟨l1,e1⟩:=ih i k hk.2.2.1.1;obtain⟨l2,e2⟩:=zl4 ih mn (if 0<mx then mx-1 else mx) (by split<;>omega) k j hk.2.2.1.2;exact⟨_,.must mn mx i j k l1 l2 hk e1 e2⟩
 |0,mx,hb,i,j,h=>by
  rcases Int.lt_trichotomy mx 0 with hm|hm|hm
  ·obtain rfl:mx=-1:=by omega
   have:∀(n i:Nat),j-i<=n->Lg u (.aw b ((0:Nat):Int) (-1)) i j->∃l,ie (Lg u b) (Pl u b) (λmn mx i j=>Lg u (.aw b mn mx) i j) 0 (-1) i j l:=by
    intro n
    induction n with
    |zero=>
     intro i hn h;obtain rfl:i=j:=by have:=h.1;omega
     exact⟨_,.pk i⟩
    |succ n Ua=>
     intro i hn h
     by_cases dA:i<j
     ·obtain⟨k0,h1,h2,h3⟩:=zmH dA h;obtain⟨k,hk⟩:=LS (P:=λk=>Lg u b i k/\Lg u (.aw b ((0:Nat):Int) (-1)) k j) (i:=i+1) j ⟨k0,h1,h3.1,h2,h3⟩;obtain⟨l1,e1⟩:=ih i k hk.2.2.1.1;obtain⟨l2,e2⟩:=Ua k (by have:=hk.1;omega) hk.2.2.1.2;exact⟨_,.more i j k l1 l2 dA hk e1 e2⟩
     ·obtain rfl:i=j:=by have:=h.1;omega
      exact⟨_,.pk i⟩
   exact this _ i (ai _) h
  ·subst hm;exact⟨_,.done i j⟩
  ·obtain⟨n,rfl⟩:∃n:Nat,mx=n:=⟨mx.toNat,by omega⟩;clear hb hm
   induction n generalizing i with
   |zero=>exact⟨_,.done i j⟩
   |succ n Ua=>
    by_cases hn:∀k,i<=k->k<=j->¬(Lg u b i k/\Lg u (.aw b 0 (((n+1:Nat):Int)-1)) k j)
    ·exact⟨_,.out _ i j (by omega) hn⟩
    ·have:∃k,i<=k/\k<=j/\(Lg u b i k/\Lg u (.aw b ((0:Nat):Int) (((n+1:Nat):Int)-1)) k j):=by
      apply Classical.byContradiction
      intro hc;exact hn λk a b h=>hc ⟨k,a,b,h⟩
     obtain⟨k,hk⟩:=LS j this;obtain⟨l1,e1⟩:=ih i k hk.2.2.1.1;have e0:(((n+1:Nat):Int)-1)=(n:Int):=by omega
     obtain⟨l2,e2⟩:=Ua k (by rw[<-e0];exact hk.2.2.1.2);exact⟨_,.may _ i j k l1 l2 (by omega) hk e1 (by rw[e0];exact e2)⟩
def oO:Pt->Prop
 |.set _=>True
 |.seq p q=>oO p/\oO q
 |.aQ p q=>oO p/\oO q
 |.aw b mn mx=>oO b/\0<=mn/\(mx=-1\/mn<=mx)
 |.aT b _=>oO b
theorem xO:∀(p:Pt),oO p->∀i j,Lg u p i j->∃l,Pl u p i j l
 |.set _,_,_,_,_=>⟨[],rfl⟩
 |.aT b g,ho,i,j,h=>by
  obtain⟨l,e⟩:=xO b ho i j h;exact⟨_,l,rfl,e⟩
 |.seq p q,ho,i,j,h=>by
  obtain⟨k0,h1,h2⟩:=Xb.1 h;obtain⟨k,hk⟩:=LS (P:=λk=>Lg u p i k/\Lg u q k j) (i:=i) j ⟨k0,h1.1,h2.1,h1,h2⟩;obtain⟨l1,e1⟩:=xO p ho.1 i k hk.2.2.1.1;obtain⟨l2,e2⟩:=xO q ho.2 k j hk.2.2.1.2;exact⟨_,k,l1,l2,hk,e1,e2,rfl⟩
 |.aQ p q,ho,i,j,h=>by
  by_cases hp:Lg u p i j
  ·obtain⟨l,e⟩:=xO p ho.1 i j hp;exact⟨l,.inl ⟨hp,e⟩⟩
  ·obtain⟨l,e⟩:=xO q ho.2 i j ((Xa.1 h).resolve_left hp);exact⟨l,.inr ⟨hp,e⟩⟩
 |.aw b mn mx,ho,i,j,h=>by
  obtain⟨h1,h2,h3⟩:=ho;obtain⟨m,rfl⟩:∃m:Nat,mn=m:=⟨mn.toNat,by omega⟩;exact zl4 (xO b h1) m mx h3 i j h
end Go.Proofs.YtdimhpfiieepiaaGreatDoor
