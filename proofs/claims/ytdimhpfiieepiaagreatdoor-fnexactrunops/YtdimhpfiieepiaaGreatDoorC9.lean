import Derived.Test.YtdimhpfiieepiaaGreatDoorC8
namespace Go.Proofs.YtdimhpfiieepiaaGreatDoor
open Proofs.Tryz
open RowKit renaming Hid->za,Below->ze
open Value renaming int->zb,agg->zg
open Obj renaming cells->zc
open Go renaming World->zd,Value->zf,Calls->zh,TypeId->zi
set_option maxHeartbeats 4000000
set_option maxRecDepth 100000
open Go.RowKit
section
variable {w W:zd}{C0 C1 C2:Array zf}
structure vJ(w:zd)(t0 t1 t2:zi)(C0 C1 C2:Array zf)(W:zd):Prop where
 below:ze w.heap.size w W
 size:w.heap.size+1+1+1<=W.heap.size
 r0:W.heap[w.heap.size]?=some (zc C0 t0 (0,0))
 r1:W.heap[w.heap.size+1]?=some (zc C1 t1 (0,0))
 r2:W.heap[w.heap.size+1+1]?=some (zc C2 t2 (0,0))
theorem vJ.new(w:zd)(t0 t1 t2:zi)(C0 C1 C2:Array zf):vJ w t0 t1 t2 C0 C1 C2 (((w.alloc (zc C0 t0)).alloc (zc C1 t1)).alloc (zc C2 t2)):=
 ⟨((aw).alloc (by simp) _).alloc (by simp;omega) _,by simp,
  by rw[Below.heap_alloc _ _ _ (by simp;omega),heap_alloc2_old],by rw[Below.heap_alloc _ _ _ (by simp),heap_alloc2_new],
  by have:=aI ((w.alloc (zc C0 t0)).alloc (zc C1 t1)) (zc C2 t2);simpa using this⟩
theorem vJ.call{W':zd}{t0 t1 t2:zi}(h:vJ w t0 t1 t2 C0 C1 C2 W)(hb:ze W.heap.size W W'):vJ w t0 t1 t2 C0 C1 C2 W':=by
 have hz:=h.size;exact⟨aq h.below h.below.size hb,aW hz hb.size,(hb.block _ (by omega)).trans h.r0,(hb.block _ (by omega)).trans h.r1,(hb.block _ (by omega)).trans h.r2⟩
theorem vJ.set{t0 t1 t2:zi}(h:vJ w t0 t1 t2 C0 C1 C2 W)(o:Nat)(v:zf):vJ w t0 t1 t2 C0 C1 (C2.setIfInBounds o v) (W.setCell ⟨w.heap.size+1+1,o,none⟩ v):=
 ⟨h.below.setCell (by simp;omega) _,by simpa [World.setCell]using h.size,(cH _ _ _ _ (by simp;omega)).trans h.r0,(cH _ _ _ _ (by simp)).trans h.r1,dE _ _ _ _ _ _ h.r2⟩
theorem vJ.cells{t0 t1 t2:zi}(h:vJ w t0 t1 t2 C0 C1 C2 W):(∀o,W.cell? ⟨w.heap.size,o,none⟩=C0[o]?)/\(∀o,W.cell? ⟨w.heap.size+1,o,none⟩=C1[o]?)/\(∀o,W.cell? ⟨w.heap.size+1+1,o,none⟩=C2[o]?)/\
  (∀o,W.frozen? ⟨w.heap.size+1,o,none⟩=false)/\(∀o,W.frozen? ⟨w.heap.size+1+1,o,none⟩=false):=
 ⟨λ_=>aM _ _ _ _ _ _ h.r0,λ_=>aM _ _ _ _ _ _ h.r1,λ_=>aM _ _ _ _ _ _ h.r2,λ_=>cT _ _ _ _ _ h.r1,λ_=>cT _ _ _ _ _ h.r2⟩
end
theorem zR{x a b:Int}:bF x a b=true↔a<=x/\x<=b:=by simp[bF]
section
variable {xs:List Int}{r:List (List Int)}{l:Int}
structure bj where
 cG:List Int
 width:Int
 base:List Int
 cA:List Int
 tag:List Int
 fin:List Int
 next:List Int
 bH:List Int
structure fV(lo:Nat)(w:zd)(cv bv fv tv ev nv kv:zf)(d:bj):Prop where
 cG:iO lo w cv d.cG
 base:iO lo w bv d.base
 cA:iO lo w fv d.cA
 tag:iO lo w tv d.tag
 fin:iO lo w ev d.fin
 next:iO lo w nv d.next
 bH:iO lo w kv d.bH
theorem fV.below{lo:Nat}{w w':zd}{cv bv fv tv ev nv kv:zf}{d:bj}(h:fV lo w cv bv fv tv ev nv kv d)(hb:ze w.heap.size w w'):fV lo w' cv bv fv tv ev nv kv d:=
 ⟨h.cG.below hb,h.base.below hb,h.cA.below hb,h.tag.below hb,h.fin.below hb,h.next.below hb,h.bH.below hb⟩
def bj.lists(d:bj):List (List Int):=[d.cG,d.base,d.cA,d.tag,d.fin,d.next,d.bH]
def kP:List (List Int)->Int->Int
 |[],l=>l
 |xs::r,l=>if iN xs l<0 then -1 else kP r (iN xs l)
theorem zmO:∀(ls:List (List Int)) (l:Int),0<=l->-1<=kP ls l/\kP ls l<=l
 |[],l,h=>by unfold kP;omega
 |xs::r,l,h=>by
  have a:=Dz xs l h;unfold kP;split
  ·omega
  ·have:=zmO r _ (show 0<=iN xs l by omega);omega
theorem zg9:∀(ls:List (List Int)) (l:Int),0<=l->l<=1048576->0<=kP ls l->∀xs∈ls,xs.length<=1048576
 |[],_,_,_,_,xs,hx=>by cases hx
 |ys::r,l,h0,h1,h,xs,hx=>by
  unfold kP at h;split at h
  ·omega
  ·rename_i hn
   have a:=zks (show 0<=iN ys l by omega) h1;rcases pI.1 hx with rfl|hx
   ·exact a.1
   ·exact zg9 r _ (by omega) a.2 h xs hx
theorem Gb(h:iN xs l<0):kP (xs::r) l=-1:=by unfold kP;rw[aC h]
theorem Gf(h:¬iN xs l<0):kP (xs::r) l=kP r (iN xs l):=by rw[kP,ak h]
def zP(d:bj):Prop:=∀xs∈d.lists,xs.length<=1048576
theorem znj{l1 l2:Nat}(cv bv fv tv ev nv kv vR vQ oY wJ vS py wA:zf)(d:bj)(w:zd)(hs:fV l1 w cv bv fv tv ev nv kv d)(cV:fV l2 w vR vQ oY wJ vS py wA d):
  zh prog 41 #[zg #[cv,zb .i64 d.width,bv,fv,tv,ev,nv,kv],zg #[vR,zb .i64 d.width,vQ,oY,wJ,vS,py,wA]] w λe w'=>e=.returned (.bool true)/\ze w.heap.size w w':=by
 have Po:ze w.heap.size w ((w.alloc (zc #[cv,zb .i64 d.width,bv,fv,tv,ev,nv,kv] 39)).alloc (zc #[vR,zb .i64 d.width,vQ,oY,wJ,vS,py,wA] 39)):=(aw).alloc (by simp) _;have r0:((w.alloc (zc #[cv,zb .i64 d.width,bv,fv,tv,ev,nv,kv] 39)).alloc (zc #[vR,zb .i64 d.width,vQ,oY,wJ,vS,py,wA] 39)).heap[w.heap.size]?=some (zc #[cv,zb .i64 d.width,bv,fv,tv,ev,nv,kv] 39 (0,0)):=heap_alloc2_old _ _ _;have q0:((w.alloc (zc #[cv,zb .i64 d.width,bv,fv,tv,ev,nv,kv] 39)).alloc (zc #[vR,zb .i64 d.width,vQ,oY,wJ,vS,py,wA] 39)).heap[w.heap.size+1]?=some (zc #[vR,zb .i64 d.width,vQ,oY,wJ,vS,py,wA] 39 (0,0)):=heap_alloc2_new _ _ _
 go_enter func41,ntmps41
 go_wp2_with fail
 refine(F6 _ _ d.cG _ (hs.below Po).cG (cV.below Po).cG).mono ?_;rintro e w1 ⟨rfl,ag⟩;have Bf:=aq Po Po.size ag;have r1:=ck r0 ag;have q1:=ck q0 ag;clear ag;have x0:=bX r1;have x1:=bX q1
 go_wp2_with fail
 refine(F6 _ _ d.base _ (hs.below Bf).base (cV.below Bf).base).mono ?_;rintro e w2 ⟨rfl,ae⟩;have rN:=aq Bf Bf.size ae;have r2:=ck r1 ae;have q2:=ck q1 ae;clear ae;clear x0 x1;have x0:=bX r2;have x1:=bX q2
 go_wp2_with fail
 refine(F6 _ _ d.cA _ (hs.below rN).cA (cV.below rN).cA).mono ?_;rintro e w3 ⟨rfl,aG⟩;have qF:=aq rN rN.size aG;have r3:=ck r2 aG;have q3:=ck q2 aG;clear aG;clear x0 x1;have x0:=bX r3;have x1:=bX q3
 go_wp2_with fail
 refine(F6 _ _ d.tag _ (hs.below qF).tag (cV.below qF).tag).mono ?_;rintro e w4 ⟨rfl,bE⟩;have C6:=aq qF qF.size bE;have r4:=ck r3 bE;have q4:=ck q3 bE;clear bE;clear x0 x1;have x0:=bX r4;have x1:=bX q4
 go_wp2_with fail
 refine(F6 _ _ d.fin _ (hs.below C6).fin (cV.below C6).fin).mono ?_;rintro e w5 ⟨rfl,bD⟩;have Pp:=aq C6 C6.size bD;have r5:=ck r4 bD;have q5:=ck q4 bD;clear bD;clear x0 x1;have x0:=bX r5;have x1:=bX q5
 go_wp2_with fail
 refine(F6 _ _ d.next _ (hs.below Pp).next (cV.below Pp).next).mono ?_;rintro e w6 ⟨rfl,ew⟩;have Pq:=aq Pp Pp.size ew;have r6:=ck r5 ew;have q6:=ck q5 ew;clear ew;clear x0 x1;have x0:=bX r6;have x1:=bX q6
 go_wp2_with fail
 refine(F6 _ _ d.bH _ (hs.below Pq).bH (cV.below Pq).bH).mono ?_;rintro e w7 ⟨rfl,o8⟩;have Ud:=aq Pq Pq.size o8;have r7:=ck r6 o8;have q7:=ck q6 o8;clear o8;clear x0 x1;have x0:=bX r7;have x1:=bX q7;go_wp2;go_ret;exact⟨rfl,Ud⟩
end
theorem zoa{lo:Nat}(cv bv fv tv ev nv kv:zf)(d:bj)(left:Int)(w:zd)(hs:fV lo w cv bv fv tv ev nv kv d)(h0:0<=left)(h1:left<=1048576):
  zh prog 27 #[zg #[cv,zb .i64 d.width,bv,fv,tv,ev,nv,kv],zb .i64 left] w λe w'=>e=.returned (zb .i64 (kP d.lists left))/\ze w.heap.size w w':=by
 obtain⟨⟨a0,p0,rfl,m0,_⟩,⟨a1,p1,rfl,m1,_⟩,⟨a2,p2,rfl,m2,_⟩,⟨a3,p3,rfl,m3,_⟩,⟨a4,p4,rfl,m4,_⟩,⟨a5,p5,rfl,m5,_⟩,⟨a6,p6,rfl,m6,_⟩⟩:=hs;have H:za (kP d.lists left=kP [d.cG,d.base,d.cA,d.tag,d.fin,d.next,d.bH] left):=rfl
 go_enter func27,ntmps27
 go_wp2_with fail
 refine(FV _ _ _ _ _ (by omega) (by omega) m0).mono ?_;rintro e w' ⟨rfl,rfl⟩;have b0:=Dz d.cG left (by omega)
 by_cases g0:iN d.cG left<0
 ·have H2:za (kP d.lists left=-1):=H.out.trans (Gb g0);clear H;go_wp2;go_ret;exact⟨gh H2.out.symm,aw⟩
 replace H:za _:=H.out.trans (Gf g0);generalize iN d.cG left=l1 at *
 go_wp2_with fail
 refine(FV _ _ _ _ _ (by omega) (by omega) m1).mono ?_;rintro e w' ⟨rfl,rfl⟩;have b1:=Dz d.base l1 (by omega)
 by_cases g1:iN d.base l1<0
 ·have H2:za (kP d.lists left=-1):=H.out.trans (Gb g1);clear H;go_wp2;go_ret;exact⟨gh H2.out.symm,aw⟩
 replace H:za _:=H.out.trans (Gf g1);generalize iN d.base l1=l2 at *
 go_wp2_with fail
 refine(FV _ _ _ _ _ (by omega) (by omega) m2).mono ?_;rintro e w' ⟨rfl,rfl⟩;have b2:=Dz d.cA l2 (by omega)
 by_cases g2:iN d.cA l2<0
 ·have H2:za (kP d.lists left=-1):=H.out.trans (Gb g2);clear H;go_wp2;go_ret;exact⟨gh H2.out.symm,aw⟩
 replace H:za _:=H.out.trans (Gf g2);generalize iN d.cA l2=l3 at *
 go_wp2_with fail
 refine(FV _ _ _ _ _ (by omega) (by omega) m3).mono ?_;rintro e w' ⟨rfl,rfl⟩;have b3:=Dz d.tag l3 (by omega)
 by_cases g3:iN d.tag l3<0
 ·have H2:za (kP d.lists left=-1):=H.out.trans (Gb g3);clear H;go_wp2;go_ret;exact⟨gh H2.out.symm,aw⟩
 replace H:za _:=H.out.trans (Gf g3);generalize iN d.tag l3=l4 at *
 go_wp2_with fail
 refine(FV _ _ _ _ _ (by omega) (by omega) m4).mono ?_;rintro e w' ⟨rfl,rfl⟩;have b4:=Dz d.fin l4 (by omega)
 by_cases g4:iN d.fin l4<0
 ·have H2:za (kP d.lists left=-1):=H.out.trans (Gb g4);clear H;go_wp2;go_ret;exact⟨gh H2.out.symm,aw⟩
 replace H:za _:=H.out.trans (Gf g4);generalize iN d.fin l4=l5 at *
 go_wp2_with fail
 refine(FV _ _ _ _ _ (by omega) (by omega) m5).mono ?_;rintro e w' ⟨rfl,rfl⟩;have b5:=Dz d.next l5 (by omega)
 by_cases g5:iN d.next l5<0
 ·have H2:za (kP d.lists left=-1):=H.out.trans (Gb g5);clear H;go_wp2;go_ret;exact⟨gh H2.out.symm,aw⟩
 replace H:za _:=H.out.trans (Gf g5);generalize iN d.next l5=l6 at *
 go_wp2_with fail
 refine(FV _ _ _ _ _ (by omega) (by omega) m6).mono ?_;rintro e w' ⟨rfl,rfl⟩;have b6:=Dz d.bH l6 (by omega)
 by_cases g6:iN d.bH l6<0
 ·have H2:za (kP d.lists left=-1):=H.out.trans (Gb g6);clear H;go_wp2;go_ret;exact⟨gh H2.out.symm,aw⟩
 replace H:za _:=H.out.trans (Gf g6);generalize iN d.bH l6=l7 at *;go_wp2;go_ret;exact⟨gh H.out.symm,aw⟩
variable {lo:Nat}
def vr:List Int->List Int->Bool
 |k::ks,n::ns=>(!(k == -1&&n != 0))&&vr ks ns
 |_,_=>true
theorem zhL(ks ns:List Int)(k:Nat)(hk:k<ks.length)(hn:k<ns.length)(x y:Int)(hx:ks.getD k 0=x)(hy:ns.getD k 0=y):vr (ks.drop k) (ns.drop k)=((!(x == -1&&y != 0))&&vr (ks.drop (k+1)) (ns.drop (k+1))):=by
 rw[oK hk,oK hn];have h1:ks[k]=x:=by rw[<-hx];simp[List.getD,hk]
 have h2:ns[k]=y:=by rw[<-hy];simp[List.getD,hn]
 rw[vr,h1,h2]
theorem zjI(ks ns:List Int)(k:Nat)(hk:ks.length<=k):vr (ks.drop k) (ns.drop k)=true:=by
 rw[sI hk];rfl
def iy(d:bj):Bool:=
 decide (d.cG.length=256)&&bF d.width 1 256&&bS 0 (d.width-1) d.cG&&bF d.base.length 1 4000&&decide (d.cA.length=d.base.length)&&decide (d.tag.length=d.base.length)&&decide (d.fin.length=d.base.length) &&
 decide (d.next.length=d.bH.length)&&decide (d.next.length<=60000)&&(vr d.bH d.next&&(bS 0 59999 d.base&&bS 0 (d.base.length-1) d.cA&&bS (-1) 99 d.tag&&bS (-1) 99 d.fin&&bS (-1) (d.base.length-1) d.bH&&bS 0 (d.base.length-1) d.next))
theorem zi9(cv bv fv tv ev nv kv:zf)(d:bj)(w:zd)(hs:fV lo w cv bv fv tv ev nv kv d)(H:za (iy d=false))
  (h:((d.cG.length:Int) != 256)=true\/((d.cG.length:Int) != 256)=false/\(bF d.width 1 256=false\/bF d.width 1 256=true/\(bS 0 (d.width-1) d.cG=false\/bS 0 (d.width-1) d.cG=true/\(bF d.base.length 1 4000=false\/bF d.base.length 1 4000=true/\
   (((d.cA.length:Int) != d.base.length)=true\/((d.cA.length:Int) != d.base.length)=false/\(((d.tag.length:Int) != d.base.length)=true\/((d.tag.length:Int) != d.base.length)=false/\(((d.fin.length:Int) != d.base.length)=true\/((d.fin.length:Int) != d.base.length)=false/\(((d.next.length:Int) != d.bH.length)=true\/((d.next.length:Int) != d.bH.length)=false/\¬d.next.length<=60000)))))))):
  zh prog 62 #[zg #[cv,zb .i64 d.width,bv,fv,tv,ev,nv,kv]] w λe w'=>e=.returned (.bool (iy d))/\ze w.heap.size w w':=by
 have dH:=hs.below ((Below.refl w.heap.size w).alloc (aj _) (zc #[cv,zb .i64 d.width,bv,fv,tv,ev,nv,kv] 39));obtain⟨⟨a0,p0,rfl,m0,y0⟩,⟨a1,p1,rfl,m1,y1⟩,⟨a2,p2,rfl,m2,y2⟩,⟨a3,p3,rfl,m3,y3⟩,⟨a4,p4,rfl,m4,y4⟩,⟨a5,p5,rfl,m5,y5⟩,⟨a6,p6,rfl,m6,y6⟩⟩:=hs;clear y0 y1 y2 y3 y4 y5 y6;rcases h with h|⟨b1,h|⟨g2,h|⟨g3,h|⟨g4,h|⟨b5,h|⟨b6,h|⟨b7,h|⟨b8,h⟩⟩⟩⟩⟩⟩⟩⟩
 all_goals
  try have hw:=zR.1 g2
  try have ht:=zR.1 g4
  go_enter func62,ntmps62
  go_wp2_with (first|(go_at_call 47;refine(oz _ _ _ _).mono ?_;rintro e w' ⟨rfl,rfl⟩)|(go_at_call 63;refine(zQ _ _ _ d.cG _ dH.cG).mono ?_;rintro e w' ⟨rfl,rfl⟩))
  go_ret
  exact⟨bz H.out.symm,aw⟩
theorem zja(cv bv fv tv ev nv kv:zf)(d:bj)(w:zd)(hs:fV lo w cv bv fv tv ev nv kv d)(g1:d.cG.length=256)(g2:bF d.width 1 256=true)(g3:bS 0 (d.width-1) d.cG=true)(g4:bF d.base.length 1 4000=true)(g5:d.cA.length=d.base.length)(g6:d.tag.length=d.base.length)(g7:d.fin.length=d.base.length)(g8:d.next.length=d.bH.length)(g9:d.next.length<=60000):
  zh prog 62 #[zg #[cv,zb .i64 d.width,bv,fv,tv,ev,nv,kv]] w λe w'=>e=.returned (.bool (iy d))/\ze w.heap.size w w':=by
 have af:ze w.heap.size w (w.alloc (zc #[cv,zb .i64 d.width,bv,fv,tv,ev,nv,kv] 39)):=aw;have dH:=hs.below af;clear af;have H:za (iy d=(vr d.bH d.next&&(bS 0 59999 d.base&&bS 0 (d.base.length-1) d.cA&&bS (-1) 99 d.tag&&bS (-1) 99 d.fin&&bS (-1) (d.base.length-1) d.bH&&bS 0 (d.base.length-1) d.next))):=by show _=_;simp[iy,g1,g2,g3,g4,g5,g6,g7,g9,<-g8]
 have b1:((d.cG.length:Int) != 256)=false:=by simp[g1]
 have b5:((d.cA.length:Int) != d.base.length)=false:=by simp[g5]
 have b6:((d.tag.length:Int) != d.base.length)=false:=by simp[g6]
 have b7:((d.fin.length:Int) != d.base.length)=false:=by simp[g7]
 have b8:((d.next.length:Int) != d.bH.length)=false:=by simp[g8]
 have hlen:d.bH.length=d.next.length:=g8.symm;have El:za (d.bH.length=d.next.length):=hlen;have hw:=zR.1 g2;have ht:=zR.1 g4;clear g1 g5 g6 g7 g8 hlen;have cV:=hs;obtain⟨⟨a0,p0,rfl,m0,y0⟩,⟨a1,p1,rfl,m1,y1⟩,⟨a2,p2,rfl,m2,y2⟩,⟨a3,p3,rfl,m3,y3⟩,⟨a4,p4,rfl,m4,y4⟩,⟨a5,p5,rfl,m5,y5⟩,⟨a6,p6,rfl,m6,y6⟩⟩:=hs;clear y0 y1 y2 y3 y4;have ey:ze w.heap.size w (w.alloc (zc #[.slice a0 d.cG.length p0,zb .i64 d.width,.slice a1 d.base.length p1,.slice a2 d.cA.length p2,.slice a3 d.tag.length p3,.slice a4 d.fin.length p4,.slice a5 d.next.length p5,.slice a6 d.bH.length p6] 39)):=aw
 go_enter func62,ntmps62
 go_wp2_with (first|(go_at_call 47;refine(oz _ _ _ _).mono ?_;rintro e w' ⟨rfl,rfl⟩)|(go_at_call 63;refine(zQ _ _ _ d.cG _ dH.cG).mono ?_;rintro e w' ⟨rfl,rfl⟩))
 go_loop [68] (λi=>∃k:Nat,k<=d.bH.length/\i=zb .i64 k/\za (iy d=(vr (d.bH.drop k) (d.next.drop k)&&(bS 0 59999 d.base&&bS 0 (d.base.length-1) d.cA&&bS (-1) 99 d.tag&&bS (-1) 99 d.fin&&bS (-1) (d.base.length-1) d.bH&&bS 0 (d.base.length-1) d.next))))
  (λi=>d.bH.length-(intOf i).toNat)
 case atStart=>exact⟨0,aR _,rfl,H.out⟩
 case round=>
  clear H;obtain⟨k,hk,rfl,HS⟩:=hrel
  by_cases hlt:k<d.bH.length
  ·have pj:k<d.next.length:=by have:=El.out;omega
   obtain⟨b,o,x,rfl,Hn,aZ,c0⟩:=y6.elem ey hlt;obtain⟨b2,o2,y,rfl,fJ,jl,d0⟩:=y5.elem ey pj;have HD:za _:=zhL d.bH d.next k hlt pj x y Hn.out fJ.out
   by_cases hx:x=-1
   ·by_cases hy:y=0
    ·go_wp2
     go_round
     case rel=>exact⟨k+1,by omega,by go_num,by show _=_;rw[HS.out,HD.out];simp[hx,hy]⟩
     case measure=>simp[intOf];omega
    ·go_wp2;go_ret;exact⟨bz (by rw[HS.out,HD.out];simp[hx,hy]),ey⟩
   ·have HE:za ((!(x == -1&&y != 0))=true):=by show _=_;simp[hx]
    go_wp2
    go_round
    case rel=>exact⟨k+1,by omega,by go_num,by show _=_;rw[HS.out,HD.out,HE.out,kh]⟩
    case measure=>simp[intOf];omega
  ·rw[zjI _ _ k (by omega),kh]at HS;clear y5 y6 g2 g3 g4 g9 b1 b5 b6 b7 b8
   go_wp2_with fail
   refine(zQ _ _ _ d.base _ dH.base).mono ?_;rintro e w' ⟨rfl,rfl⟩;cases q0:bS 0 59999 d.base
   case false=>
    rw[q0]at HS;go_wp2;go_ret;exact⟨bz (by rw[HS.out];simp),ey⟩
   rw[q0]at HS
   go_wp2_with fail
   refine(zQ _ _ _ d.cA _ dH.cA).mono ?_;rintro e w' ⟨rfl,rfl⟩;cases q1:bS 0 (d.base.length-1) d.cA
   case false=>
    rw[q1]at HS;go_wp2;go_ret;exact⟨bz (by rw[HS.out];simp),ey⟩
   rw[q1]at HS
   go_wp2_with fail
   refine(zQ _ _ _ d.tag _ dH.tag).mono ?_;rintro e w' ⟨rfl,rfl⟩;cases q2:bS (-1) 99 d.tag
   case false=>
    rw[q2]at HS;go_wp2;go_ret;exact⟨bz (by rw[HS.out];simp),ey⟩
   rw[q2]at HS
   go_wp2_with fail
   refine(zQ _ _ _ d.fin _ dH.fin).mono ?_;rintro e w' ⟨rfl,rfl⟩;cases q3:bS (-1) 99 d.fin
   case false=>
    rw[q3]at HS;go_wp2;go_ret;exact⟨bz (by rw[HS.out];simp),ey⟩
   rw[q3]at HS
   go_wp2_with fail
   refine(zQ _ _ _ d.bH _ dH.bH).mono ?_;rintro e w' ⟨rfl,rfl⟩;cases q4:bS (-1) (d.base.length-1) d.bH
   case false=>
    rw[q4]at HS;go_wp2;go_ret;exact⟨bz (by rw[HS.out];simp),ey⟩
   rw[q4]at HS
   go_wp2_with fail
   refine(zQ _ _ _ d.next _ dH.next).mono ?_;rintro e w' ⟨rfl,rfl⟩;go_wp2;go_ret;exact⟨bz (by rw[HS.out];simp),ey⟩
theorem zhB(cv bv fv tv ev nv kv:zf)(d:bj)(w:zd)(hs:fV lo w cv bv fv tv ev nv kv d):
  zh prog 62 #[zg #[cv,zb .i64 d.width,bv,fv,tv,ev,nv,kv]] w λe w'=>e=.returned (.bool (iy d))/\ze w.heap.size w w':=by
 have N:=zi9 cv bv fv tv ev nv kv d w hs
 by_cases g1:d.cG.length=256
 case neg=>exact N (by show _=_;simp[iy,g1]) (.inl (by simp;omega))
 have b1:((d.cG.length:Int) != 256)=false:=by simp[g1]
 cases g2:bF d.width 1 256
 case false=>exact N (by show _=_;simp[iy,g2]) (.inr ⟨b1,.inl g2⟩)
 cases g3:bS 0 (d.width-1) d.cG
 case false=>exact N (by show _=_;simp[iy,g3]) (.inr ⟨b1,.inr ⟨g2,.inl g3⟩⟩)
 cases g4:bF d.base.length 1 4000
 case false=>exact N (by show _=_;simp[iy,g4]) (.inr ⟨b1,.inr ⟨g2,.inr ⟨g3,.inl g4⟩⟩⟩)
 have n1:=λh H=>N H (.inr ⟨b1,.inr ⟨g2,.inr ⟨g3,.inr ⟨g4,h⟩⟩⟩⟩)
 clear N
 by_cases g5:d.cA.length=d.base.length
 case neg=>exact n1 (.inl (by simp;omega)) (by show _=_;simp[iy,g5])
 have b5:((d.cA.length:Int) != d.base.length)=false:=by simp[g5]
 by_cases g6:d.tag.length=d.base.length
 case neg=>exact n1 (.inr ⟨b5,.inl (by simp;omega)⟩) (by show _=_;simp[iy,g6])
 have b6:((d.tag.length:Int) != d.base.length)=false:=by simp[g6]
 by_cases g7:d.fin.length=d.base.length
 case neg=>exact n1 (.inr ⟨b5,.inr ⟨b6,.inl (by simp;omega)⟩⟩) (by show _=_;simp[iy,g7])
 have b7:((d.fin.length:Int) != d.base.length)=false:=by simp[g7]
 by_cases g8:d.next.length=d.bH.length
 case neg=>exact n1 (.inr ⟨b5,.inr ⟨b6,.inr ⟨b7,.inl (by simp;omega)⟩⟩⟩) (by show _=_;simp[iy,g8])
 by_cases g9:d.next.length<=60000
 case neg=>exact n1 (.inr ⟨b5,.inr ⟨b6,.inr ⟨b7,.inr ⟨by simp[g8],g9⟩⟩⟩⟩) (by show _=_;simp[iy,g9])
 exact zja cv bv fv tv ev nv kv d w hs g1 g2 g3 g4 g5 g6 g7 g8 g9
end Go.Proofs.YtdimhpfiieepiaaGreatDoor
