import Derived.Test.YtfajjdgkiilhfaaC28
import Derived.Test.YtfajjdgkiilhfaaC29
namespace Go.Proofs.Ytfajjdgkiilhfaa
open Proofs.Try
open Option renaming some->za,none->zh
open Value renaming slice->zi,int->zw,pointer->zJ,agg->zK
open Obj renaming cells->zp
open RowKit renaming Hid->zy,Below->zG
open Go renaming Value->zF,World->zH,TypeId->zI
set_option maxHeartbeats 8000000
set_option maxRecDepth 100000
open Go.RowKit
structure uP(d:aE)(o:List Nat)(os:List Nat)(nb:List Int):Prop where
 lt:∀x∈os,x<d.tag.length
 nd:os.Nodup
 nl:nb.length=d.tag.length
 num:∀t,t<d.tag.length->nb.getD (o.getD t 0) 0=if dZ (ai d) (au d) os t<os.length then (dZ (ai d) (au d) os t:Int) else -1
theorem uP.len{d:aE}{o os:List Nat}{nb:List Int}(h:uP d o os nb):os.length<=d.tag.length:=sT _ _ h.nd h.lt
theorem zgS{l:List Int}{i:Nat}{x:Int}(h:i<l.length):(l.set i x).getD i 0=x:=by
 rw[bI,List.getElem?_set_self h];rfl
theorem zfO{l:List Int}{i j:Nat}{x:Int}(h:i≠j):(l.set i x).getD j 0=l.getD j 0:=by
 rw[bI,List.getElem?_set_ne h,bI]
theorem uP.start{d:aE}{o:List Nat}(hn:0<d.tag.length)(ho:∀s,s<d.tag.length->o.getD s 0<d.tag.length)(hA:∀s t,s<d.tag.length->t<d.tag.length->(o.getD s 0=o.getD t 0↔cD (ai d) (au d) s t)):
  uP d o [0] ((List.replicate d.tag.length (-1:Int)).set (o.getD 0 0) 0):=by
 refine⟨λx hx=>by simp at hx;omega,by simp,by simp,λt ht=>?_⟩;have h0:=ho 0 hn;have lR:=ho t ht
 by_cases e:o.getD 0 0=o.getD t 0
 ·have al:=(hA 0 t hn ht).1 e;have hi:dZ (ai d) (au d) [0] t=0:=by simp[dZ,al]
  rw[<-e,zgS (by simpa using h0),hi];simp
 ·have al:¬cD (ai d) (au d) 0 t:=λk=>e ((hA 0 t hn ht).2 k)
  have hi:dZ (ai d) (au d) [0] t=1:=by simp[dZ,al]
  rw[zfO e,hi,bI,List.getElem?_replicate_of_lt lR];simp
theorem uP.add{d:aE}{o os:List Nat}{nb:List Int}(h:uP d o os nb)(ho:∀s,s<d.tag.length->o.getD s 0<d.tag.length)(hA:∀s t,s<d.tag.length->t<d.tag.length->(o.getD s 0=o.getD t 0↔cD (ai d) (au d) s t)){x:Nat}(hx:x<d.tag.length)(hn:¬dZ (ai d) (au d) os x<os.length):
  uP d o (os++[x]) (nb.set (o.getD x 0) (os.length:Int)):=by
 have hne:x∉os:=λhm=>hn (Cl.2 ⟨x,hm,cD.refl _ _ _⟩)
 refine⟨λy hy=>?_,?_,by rw[qP];exact h.nl,λt ht=>?_⟩
 ·rcases gH.1 hy with k|k
  ·exact h.lt y k
  ·simp at k;omega
 ·rw[Gw];exact⟨h.nd,by simp,λa ha b hb e=>by simp at hb;subst hb;exact hne (e ▸ ha)⟩
 ·have hxo:=ho x hx
  by_cases e:o.getD x 0=o.getD t 0
  ·have al:=(hA x t hx ht).1 e;have hi:¬dZ (ai d) (au d) os t<os.length:=λk=>by
    obtain⟨y,h1,h2⟩:=Cl.1 k;exact hn (Cl.2 ⟨y,h1,h2.trans al.symm⟩)
   rw[<-e,zgS (by rw[h.nl];exact hxo),Uh hi,ae al,ae (by simp)]
  ·have al:¬cD (ai d) (au d) x t:=λk=>e ((hA x t hx ht).2 k)
   rw[zfO e,h.num t ht]
   by_cases k:dZ (ai d) (au d) os t<os.length
   ·rw[ae k,zoS k,ae (by simp;omega)]
   ·rw[ab k,Uh k,ab al,ab (by simp)]
theorem uP.next{d:aE}(hf:cL d){o:List Nat}{nb:List Int}{k c:Nat}(h:uP d o (aF (ai d) (au d) k c) nb)(hk:k<(aF (ai d) (au d) k c).length)(hc:c<256)(ho:∀s,s<d.tag.length->o.getD s 0<d.tag.length)(hA:∀s t,s<d.tag.length->t<d.tag.length->(o.getD s 0=o.getD t 0↔cD (ai d) (au d) s t)){x:Nat}(hx:ai d ((aF (ai d) (au d) k c).getD k 0) c=x):
  x<d.tag.length/\(nb.getD (o.getD x 0) 0=-1->aF (ai d) (au d) k (c+1)=aF (ai d) (au d) k c++[x]/\uP d o (aF (ai d) (au d) k c++[x]) (nb.set (o.getD x 0) ((aF (ai d) (au d) k c).length:Int)))/\(nb.getD (o.getD x 0) 0≠-1->aF (ai d) (au d) k (c+1)=aF (ai d) (au d) k c):=by
 have hs:=h.lt _ (kO hk);have mg:x<d.tag.length:=by rw[<-hx];exact hf.LO hs hc
 have pV:=h.num x mg;refine⟨mg,λe=>?_,λe=>?_⟩
 ·have hi:¬dZ (ai d) (au d) (aF (ai d) (au d) k c) x<(aF (ai d) (au d) k c).length:=λk1=>by rw[ae k1]at pV;omega
  exact⟨by rw[yZ,hx];unfold nD;rw[ab hi],h.add ho hA mg hi⟩
 ·have hi:dZ (ai d) (au d) (aF (ai d) (au d) k c) x<(aF (ai d) (au d) k c).length:=by
   by_cases k1:dZ (ai d) (au d) (aF (ai d) (au d) k c) x<(aF (ai d) (au d) k c).length
   ·exact k1
   ·rw[ab k1]at pV;exact absurd pV e
  rw[yZ,hx];unfold nD;rw[ae hi]
theorem aS.pick{gt n m:Nat}{W:zH}{v:Nat->zF}{l:Nat->List Int}(h:aS gt n W v l)(f:Nat->Nat)(hf:∀i,i<m->f i<n)(hi:∀i j,i<m->j<m->i≠j->f i≠f j):aS gt m W (λi=>v (f i)) (λi=>l (f i)):=
 ⟨λi h1=>h.own _ (hf i h1),λi j h1 h2 hne b hb=>h.apart _ _ (hf i h1) (hf j h2) (hi i j h1 h2 hne) b hb⟩
structure mI(w:zH)(D:Array zF)(bv:zF)(os:List Nat)(nb:List Int)(k gN:Nat)(v:Nat->zF)(l:Nat->List Int)(W:zH):Prop where
 aq:aS (w.heap.size+3) 3 W v l
 l0:l 0=aO os
 l1:l 1=nb
 l2:l 2=[(k:Int)]
 v2:v 2=zi (za ⟨gN,0,zh⟩) 1 1
 bD:W.heap[w.heap.size]?=za (zp D 25 (0,0))
 bB:W.heap[w.heap.size+1]?=za (zp #[bv] 23 (0,0))
 b4:W.heap[w.heap.size+1+1]?=za (zp #[v 0] 23 (0,0))
 b5:W.heap[w.heap.size+1+1+1]?=za (zp #[v 1] 23 (0,0))
 be:zG w.heap.size w W
section
variable {w:zH} {D:Array zF} {bv:zF} {os:List Nat} {nb:List Int} {k gN:Nat} {v:Nat->zF} {l:Nat->List Int} {W W':zH}
theorem mI.size(h:mI w D bv os nb k gN v l W):w.heap.size+4<=W.heap.size:=by have:=az h.b5;omega
theorem mI.on(h:mI w D bv os nb k gN v l W)(hb:zG W.heap.size W W'):mI w D bv os nb k gN v l W':=
 ⟨h.aq.below hb,h.l0,h.l1,h.l2,h.v2,aY h.bD hb,aY h.bB hb,aY h.b4 hb,aY h.b5 hb,h.be.trans (hb.mono h.be.size)⟩
theorem mI.cells(h:mI w D bv os nb k gN v l W)(hc:∀(b:Nat) (cs:Array zF) (t:zI),W.heap[b]?=za (zp cs t (0,0))->W'.heap[b]?=za (zp cs t (0,0)))(hb:zG w.heap.size w W'):mI w D bv os nb k gN v l W':=
 ⟨h.aq.sI λi hi b e=>by obtain⟨cs,h1⟩:=jx (h.aq.own i hi) e;rw[hc _ _ _ h1,h1],h.l0,h.l1,h.l2,h.v2,hc _ _ _ h.bD,hc _ _ _ h.bB,hc _ _ _ h.b4,hc _ _ _ h.b5,hb⟩
theorem mI.app(h:mI w D bv os nb k gN v l W){u:zF}{x:Nat}(hF:aS (w.heap.size+3) 3 W' (upd v 0 u) (bq l 0 (aO os++[(x:Int)])))(hg:W.grownBy W' (v 0).ownBlock):
  W'.cell? ⟨w.heap.size+1+1,0,zh⟩=za (v 0)/\W'.frozen? ⟨w.heap.size+1+1,0,zh⟩=false/\mI w D bv (os++[x]) nb k gN (upd v 0 u) (bq l 0 (aO os++[(x:Int)])) (W'.setCell ⟨w.heap.size+1+1,0,zh⟩ u):=by
 have o:∀{b:Nat} {cs:Array zF} {e:zI},e≠3->W.heap[b]?=za (zp cs e (0,0))->W'.heap[b]?=za (zp cs e (0,0)):=λhe hb=>h.aq.others (i:=0) (by omega) hg he hb
 have x4:=o (by decide) h.b4;have hs:∀{b:Nat} {cs:Array zF} {e:zI},b≠w.heap.size+1+1->W'.heap[b]?=za (zp cs e (0,0))->(W'.setCell ⟨w.heap.size+1+1,0,zh⟩ u).heap[b]?=za (zp cs e (0,0)):=λhb h=>(cS _ _ _ _ (by exact hb)).trans h
 refine⟨by rw[dt _ _ _ _ _ _ x4];rfl,aR _ _ 0 _ _ x4,hF.other x4 (by decide) (oK _ _ _ _),by rw[ez];simp[aO],by rw[a8 _ _ (by omega)];exact h.l1,by rw[a8 _ _ (by omega)];exact h.l2,by rw[bW _ _ (by omega)];exact h.v2,hs (by omega) (o (by decide) h.bD),hs (by omega) (o (by decide) h.bB),?_,?_,?_⟩
 ·rw[fN];exact dx _ _ _ _ _ _ x4
 ·rw[bW _ _ (by omega)];exact hs (by omega) (o (by decide) h.b5)
 ·exact(h.be.grown hg h.be.size (λb hb=>by have:=(eN (h.aq.own 0 (by omega)) hb).1;omega)).setCell (p:=⟨w.heap.size+1+1,0,zh⟩) (by show w.heap.size<=w.heap.size+1+1;omega) u
theorem mI.put(h:mI w D bv os nb k gN v l W){g5 m5 c5 j:Nat}(hv:v 1=zi (za ⟨g5,0,zh⟩) m5 c5)(hm:nb.length=m5)(y:Int):mI w D bv os (nb.set j y) k gN v (bq l 1 (nb.set j y)) (W.setCell ⟨g5,j,zh⟩ (zw .i64 y)):=by
 have hF:=h.aq.put (i:=1) (by omega) hv (by rw[h.l1];exact hm) j y;rw[h.l1]at hF;obtain⟨cs,hc⟩:=jx (h.aq.own 1 (by omega)) (b:=g5) (by rw[hv];rfl);have hs:∀{b:Nat} {cs:Array zF} {e:zI},e≠3->W.heap[b]?=za (zp cs e (0,0))->(W.setCell ⟨g5,j,zh⟩ (zw .i64 y)).heap[b]?=za (zp cs e (0,0)):=λhe hb=>(cS _ _ _ _ (λe2=>by
  have e3:_=g5:=e2;rw[e3,hc]at hb;exact he (er hb).symm)).trans hb
 have eK:=(eN (h.aq.own 1 (by omega)) (b:=g5) (by rw[hv];rfl)).1;exact⟨hF,by rw[a8 _ _ (by omega)];exact h.l0,ez _ _ _,by rw[a8 _ _ (by omega)];exact h.l2,h.v2,hs (by decide) h.bD,hs (by decide) h.bB,hs (by decide) h.b4,hs (by decide) h.b5,h.be.setCell (p:=⟨g5,j,zh⟩) (by show w.heap.size<=g5;omega) _⟩
theorem mI.turn(h:mI w D bv os nb k gN v l W)(k':Nat):mI w D bv os nb k' W.heap.size (λi=>if i=2 then zi (za ⟨W.heap.size,0,zh⟩) 1 1 else v i) (λi=>if i=2 then [(k':Int)] else l i) (W.alloc (zp #[zw .i64 (k':Int)] 3)):=by
 have hb:zG W.heap.size W (W.alloc (zp #[zw .i64 (k':Int)] 3)):=aC;have h':=h.on hb;have hsz:=h.size;have qz:=UA (B:=w.heap.size+3+1) (aU W (zp #[zw .i64 (k':Int)] 3)) (by omega);refine⟨⟨λi hi=>?_,λi j hi hj hne b hb=>?_⟩,h.l0,h.l1,rfl,rfl,h'.bD,h'.bB,h'.b4,h'.b5,h'.be⟩
 ·by_cases e:i=2
  ·simp only[ae e];exact qz
  ·simp only[ab e];exact h'.aq.own i hi
 ·by_cases e:i=2
  ·simp only[ae e]at hb;simp[Value.ownBlock]at hb;have e2:¬j=2:=by omega
   simp only[ab e2];intro hc;have:=(eN (h.aq.own j hj) hc).2;omega
  ·simp only[ab e]at hb
   by_cases e2:j=2
   ·simp only[ae e2];intro hc;simp[Value.ownBlock]at hc;have:=(eN (h.aq.own i hi) hb).2;omega
   ·simp only[ab e2];exact h.aq.apart i j hi hj hne b hb
end
theorem aS.one{gt n:Nat}{W:zH}{v:Nat->zF}{l:Nat->List Int}(h:aS gt n W v l)(hB:gt+1<=W.heap.size)(x:Int):aS gt (n+1) (W.alloc (zp #[zw .i64 x] 3)) (upd v n (zi (za ⟨W.heap.size,0,zh⟩) 1 1)) (bq l n [x]):=by
 have hb:zG W.heap.size W (W.alloc (zp #[zw .i64 x] 3)):=aC;refine⟨λi hi=>?_,λi j hi hj hne b qw=>?_⟩
 ·by_cases e:i=n
  ·subst e;rw[fN,ez];exact UA (aU _ _) hB
  ·rw[bW _ _ e,a8 _ _ e];exact(h.below hb).own i (by omega)
 ·by_cases e:i=n
  ·subst e;rw[fN]at qw;simp[Value.ownBlock]at qw;rw[bW _ _ (Ne.symm hne)];intro hc;have:=(eN (h.own j (by omega)) hc).2;omega
  ·rw[bW _ _ e]at qw
   by_cases e2:j=n
   ·subst e2;rw[fN];intro hc;simp[Value.ownBlock]at hc;have:=(eN (h.own i (by omega)) qw).2;omega
   ·rw[bW _ _ e2];exact h.apart i j (by omega) (by omega) hne b qw
theorem zpv(x:Int)(n:Nat):sO x n n=(List.replicate n x).map mU:=by
 apply tz
 intro i
 by_cases h:i<n
 ·rw[D1 x h];simp[h,mU]
 ·rw[qR (by rw[D2];omega),qR (by simp;omega)]
theorem mI.start{w w3:zH}{D:Array zF}{bv:zF}{n g5 x0:Nat}(nq:Nat)(hD:w3.heap[w.heap.size]?=za (zp D 25 (0,0)))(hB:w3.heap[w.heap.size+1]?=za (zp #[bv] 23 (0,0)))(h4:w3.heap[w.heap.size+1+1]?=za (zp #[zi zh 0 0] 23 (0,0)))(h5:w3.heap[w.heap.size+1+1+1]?=za (zp #[zi zh 0 0] 23 (0,0)))
  (hr:w3.heap[g5]?=za (zp (sO (-1) n n).toArray 3 (0,0))) (dF:w.heap.size+4<=g5) (pi:zG w.heap.size w w3) (hn:n<=4000):
  ∃v l,v 1=zi (za ⟨g5,0,zh⟩) n n/\mI w D bv [0] ((List.replicate n (-1:Int)).set x0 0) 0 (w3.heap.size+1) v l ((((((w3.setCell ⟨w.heap.size+1+1+1,0,zh⟩ (zi (za ⟨g5,0,zh⟩) n n)).alloc (zp #[zw .i64 0] 3)).setCell ⟨w.heap.size+1+1,0,zh⟩ (zi (za ⟨w3.heap.size,0,zh⟩) 1 1)).drewN nq).setCell ⟨g5,x0,zh⟩ (zw .i64 0)).alloc (zp #[zw .i64 0] 3)):=by
 have hl5:=az hr;have hF0:aS (w.heap.size+3) 1 w3 (λ_=>zi (za ⟨g5,0,zh⟩) n n) (λ_=>List.replicate n (-1:Int)):=by
  refine⟨λi hi=>?_,λi j hi hj hne=>by omega⟩;unfold dQ;rw[<-zpv,xI];exact⟨by rw[D2];omega,.inr ⟨g5,n,_,rfl,by omega,hr,ax _,by unfold maxLen;omega,by simp[D2],by rw[tj (by simp[D2])]⟩⟩
 have hF1:=hF0.other h5 (by decide) (oK w3 (w.heap.size+1+1+1) 0 (zi (za ⟨g5,0,zh⟩) n n));have h51:=dx w3 (w.heap.size+1+1+1) 0 _ _ (zi (za ⟨g5,0,zh⟩) n n) h5;have o1:∀{b:Nat} {ob:Obj},b≠w.heap.size+1+1+1->w3.heap[b]?=za ob->(w3.setCell ⟨w.heap.size+1+1+1,0,zh⟩ (zi (za ⟨g5,0,zh⟩) n n)).heap[b]?=za ob:=λhb h=>(cS _ _ _ _ (by exact hb)).trans h
 have h41:=o1 (by omega) h4;have Ij:=o1 (by omega) hD;have BO:=o1 (by omega) hB;have e1:(w3.setCell ⟨w.heap.size+1+1+1,0,zh⟩ (zi (za ⟨g5,0,zh⟩) n n)).heap.size=w3.heap.size:=by simp[World.setCell]
 have aP:zG w.heap.size w (w3.setCell ⟨w.heap.size+1+1+1,0,zh⟩ (zi (za ⟨g5,0,zh⟩) n n)):=pi.setCell (p:=⟨w.heap.size+1+1+1,0,zh⟩) (by show w.heap.size<=w.heap.size+1+1+1;omega) _;generalize w3.setCell ⟨w.heap.size+1+1+1,0,zh⟩ (zi (za ⟨g5,0,zh⟩) n n)=Wa at *;have bb:zG Wa.heap.size Wa (Wa.alloc (zp #[zw .i64 0] 3)):=aC;have hF2:=hF1.one (by omega) 0;have nG:(Wa.alloc (zp #[zw .i64 0] 3)).heap.size=w3.heap.size+1:=by simp[e1]
 have zwt:=aY h41 bb;have zzJ:=aY h51 bb;have zzN:=aY Ij bb;have zzK:=aY BO bb;have zz0:=aP.trans (bb.mono aP.size);rw[e1]at hF2;generalize Wa.alloc (zp #[zw .i64 0] 3)=Wb at *;have R7:=hF2.other zwt (by decide) (oK Wb (w.heap.size+1+1) 0 (zi (za ⟨w3.heap.size,0,zh⟩) 1 1));have Xc:=dx Wb (w.heap.size+1+1) 0 _ _ (zi (za ⟨w3.heap.size,0,zh⟩) 1 1) zwt;have o2:∀{b:Nat} {ob:Obj},b≠w.heap.size+1+1->Wb.heap[b]?=za ob->(Wb.setCell ⟨w.heap.size+1+1,0,zh⟩ (zi (za ⟨w3.heap.size,0,zh⟩) 1 1)).heap[b]?=za ob:=λhb h=>(cS _ _ _ _ (by exact hb)).trans h
 have h52:=o2 (by omega) zzJ;have R6:=o2 (by omega) zzN;have sj:=o2 (by omega) zzK;have e2:(Wb.setCell ⟨w.heap.size+1+1,0,zh⟩ (zi (za ⟨w3.heap.size,0,zh⟩) 1 1)).heap.size=w3.heap.size+1:=by simp[World.setCell,nG]
 have aL:zG w.heap.size w (Wb.setCell ⟨w.heap.size+1+1,0,zh⟩ (zi (za ⟨w3.heap.size,0,zh⟩) 1 1)):=zz0.setCell (p:=⟨w.heap.size+1+1,0,zh⟩) (by show w.heap.size<=w.heap.size+1+1;omega) _;generalize Wb.setCell ⟨w.heap.size+1+1,0,zh⟩ (zi (za ⟨w3.heap.size,0,zh⟩) 1 1)=Wx at *;have bb2:zG Wx.heap.size Wx (Wx.drewN nq):=below_drewN (Below.refl _ _) nq;have nI:=R7.below bb2;have e3:(Wx.drewN nq).heap.size=w3.heap.size+1:=e2;have h53:=aY h52 bb2;have nH:=aY R6 bb2;have yu:=aY sj bb2;have h43:=aY Xc bb2;have cN:=aL.trans (bb2.mono aL.size);generalize Wx.drewN nq=Wc at *;have nJ:=nI.put (i:=0) (by omega) (g:=g5) (m:=n) (cap:=n) (by rw[bW _ _ (by omega)]) (by rw[a8 _ _ (by omega)];simp) x0 0;obtain⟨cs,Ok⟩:=jx (nI.own 0 (by omega)) (b:=g5) (by rw[bW _ _ (by omega)];rfl);have o3:∀{b:Nat} {ob:Obj},b≠g5->Wc.heap[b]?=za ob->(Wc.setCell ⟨g5,x0,zh⟩ (zw .i64 0)).heap[b]?=za ob:=λhb h=>(cS _ _ _ _ (by exact hb)).trans h
 have e4:(Wc.setCell ⟨g5,x0,zh⟩ (zw .i64 0)).heap.size=w3.heap.size+1:=by simp[World.setCell,e3]
 have bZ:zG w.heap.size w (Wc.setCell ⟨g5,x0,zh⟩ (zw .i64 0)):=cN.setCell (p:=⟨g5,x0,zh⟩) (by show w.heap.size<=g5;omega) _;have h54:=o3 (by omega) h53;have hD4:=o3 (by omega) nH;have E2:=o3 (by omega) yu;have h44:=o3 (by omega) h43;generalize Wc.setCell ⟨g5,x0,zh⟩ (zw .i64 0)=Wd at *;have uV:=nJ.one (by omega) 0;have bb3:zG Wd.heap.size Wd (Wd.alloc (zp #[zw .i64 0] 3)):=aC;have wy:=uV.pick (m:=3) (λi=>if i=0 then 1 else if i=1 then 0 else 2) (λi hi=>by split<;>first|omega|(split<;>omega)) (λi j hi hj hne=>by
  have:i=0\/i=1\/i=2:=by omega
  have:j=0\/j=1\/j=2:=by omega
  rcases ‹i=0\/i=1\/i=2› with rfl|rfl|rfl<;>rcases ‹j=0\/j=1\/j=2› with rfl|rfl|rfl<;>first|omega|decide)
 refine⟨_,_,?_,wy,?_,?_,?_,?_,aY hD4 bb3,aY E2 bb3,?_,?_,bZ.trans (bb3.mono bZ.size)⟩
 ·rfl
 ·rfl
 ·show bq (bq _ _ _) 2 _ 0=_;rw[a8 _ _ (by omega),ez,a8 _ _ (by omega)]
 ·rfl
 ·show Value.slice (za ⟨Wd.heap.size,0,zh⟩) 1 1=_;rw[e4]
 ·exact aY h44 bb3
 ·exact aY h54 bb3
section
variable {W W':zH}{gt n bb bo bc:Nat}{v:Nat -> zF}{l:Nat -> List Int}
attribute [local go_sem] Oper.semAt_some
theorem Jt(S:aS gt n W v l)(i:Nat)(hi:i<n)(xs:List Int)(Jc:l i=xs)(m:Nat)(hn:xs.length=m)(vi:zF)(hv:v i=vi)(y:Int)(hl:m<=2000000)(hB:gt+1<=W.heap.size)(ty:zI):
  ∃g cap W',(Wv #[23,23] ty #[vi,zi (za ⟨W.heap.size,0,zh⟩) 1 1]).run prog (W.alloc (zp #[zw .i64 y] 3))=.ok (zi (za ⟨g,0,zh⟩) (m+1) cap) W'/\aS gt n W' (upd v i (zi (za ⟨g,0,zh⟩) (m+1) cap)) (bq l i (xs++[y]))/\W.grownBy W' (v i).ownBlock:=by
 subst hn;subst Jc;subst hv;obtain⟨i0,fk,eQ,eR,dR⟩:=info_parts Try.wP;have hb:zG W.heap.size W (W.alloc (zp #[zw .i64 y] 3)):=aC;have own:(W.alloc (zp #[zw .i64 y] 3)).ownsRow (gt+1) 3 1 (v i) (l i).length ((l i).map mU):=(S.below hb).own i hi;have hsz:(W.alloc (zp #[zw .i64 y] 3)).heap.size=W.heap.size+1:=by simp
 obtain⟨g,cap,W',hr,yV,iy,at',_⟩:=run_append_lies (P:=prog) (W.alloc (zp #[zw .i64 y] 3)) 23 ty (gt+1) 3 i0 _ 1 8 underlying23 fk eQ eR dR rfl (by omega) (v i) (l i).length ((l i).map mU) own ⟨W.heap.size,0,zh⟩ 1 1 [zw .i64 y] rfl (zjk (aU _ _)) (by intro u hu;simp at hu;subst hu;rfl) (by omega) (by unfold maxLen;omega) (by omega) (by omega) (W.heap.size+1) hsz;refine⟨g,cap,W',hr,aS.append (S.below hb) hi yV iy (at'.imp id (λh=>by omega)),?_⟩;exact⟨iy.os.trans hb.os,iy.tape.trans hb.tape,iy.output.trans hb.output,cM hb.size iy.size,λk hk hne=>(iy.block k (by have:=hb.size;omega) hne).trans (hb.block k hk)⟩
theorem Ga(h:zG W.heap.size W W'):KeepsOthers W W':=⟨h.size,λk _ hk _=>(h.block k (gF.1 hk).1).trans hk⟩
theorem Jy(h:aS gt n W v l){i:Nat}(hi:i<n)(hg:W.grownBy W' (v i).ownBlock):KeepsOthers W W':=KeepsOthers.of_grownBy hg λ_ _ e ho=>by
 obtain⟨cs,hc⟩:=jx (h.own i hi) e;rw[hc]at ho;rw[<-Option.some.inj ho]
 rfl
attribute [local go_sem ↓] zeH
structure Kq(w:zH)(D:Array zF)(bv:zF)(d:aE)(o:List Nat)(k gN:Nat)(Ds:List Nat)(c:Nat)(nb:List Int)(v:Nat->zF)(l:Nat->List Int)(W:zH):Prop where
 st:mI w D bv (aF (ai d) (au d) k c) nb k gN v l W
 wk:uP d o (aF (ai d) (au d) k c) nb
 mr:∀x∈Ds,W.heap[x]?=za (.deferred (za []))
theorem Kq.own(w:zH)(D:Array zF)(bv:zF)(d:aE)(o:List Nat)(k gN:Nat)(Ds:List Nat)(B:Nat)(hB:∀x∈Ds,x<B)(hw:w.heap.size<=B):OwnFrom B (λc W=>∃nb v l,Kq w D bv d o k gN Ds c nb v l W):=by
 rintro c W W' row ⟨nb,v,l,h⟩ hg hr;have hc:∀(b:Nat) (cs:Array zF) (t:zI),W.heap[b]?=za (zp cs t (0,0))->W'.heap[b]?=za (zp cs t (0,0)):=λb cs t hb=>(hg.block b (az hb) (λe=>by obtain⟨_,o,h1,h2⟩:=hr b e.symm;rw[hb]at h1;cases h1;cases h2)).trans hb
 refine⟨nb,v,l,h.st.cells hc (h.st.be.grown hg h.st.be.size (λq e=>by have:=(hr q e).1;omega)),h.wk,λx hx=>?_⟩;exact(hg.block x (gF.1 (h.mr x hx)).1 (λe=>by have:=(hr x e.symm).1;have:=hB x hx;omega)).trans (h.mr x hx)
structure WbL(w:zH)(D:Array zF)(bb bo n bc:Nat)(k gN g0 n0 c0 g5 c5:Nat)(W:zH):Prop where
 zD:W.heap[w.heap.size]?=za (zp D 25 (0,0))
 zB:W.cell? ⟨w.heap.size+1,0,zh⟩=za (zi (za ⟨bb,bo,zh⟩) n bc)
 z4:W.cell? ⟨w.heap.size+1+1,0,zh⟩=za (zi (za ⟨g0,0,zh⟩) n0 c0)
 f4:W.frozen? ⟨w.heap.size+1+1,0,zh⟩=false
 z5:W.cell? ⟨w.heap.size+1+1+1,0,zh⟩=za (zi (za ⟨g5,0,zh⟩) n c5)
 f5:W.frozen? ⟨w.heap.size+1+1+1,0,zh⟩=false
 zN:W.cell? ⟨gN,0,zh⟩=za (zw .i64 (k:Int))
theorem mI.look{w:zH}{D:Array zF}{os:List Nat}{nb:List Int}{k gN:Nat}(h:mI w D (zi (za ⟨bb,bo,zh⟩) n bc) os nb k gN v l W)(ho:0<os.length)(hn:nb.length=n)(Dv:0<n):
  ∃g0 c0 g5 c5,v 0=zi (za ⟨g0,0,zh⟩) os.length c0/\v 1=zi (za ⟨g5,0,zh⟩) n c5/\WbL w D bb bo n bc k gN g0 os.length c0 g5 c5 W/\(∀j,j<os.length->W.cell? ⟨g0,j,zh⟩=za (zw .i64 ((os.getD j 0:Nat):Int)))/\(∀j,j<n->W.cell? ⟨g5,j,zh⟩=za (zw .i64 (nb.getD j 0))/\W.frozen? ⟨g5,j,zh⟩=false):=by
 obtain⟨g0,c0,e0,sB⟩:=h.aq.wR (i:=0) (by omega) h.l0 ho;have h1:=h.aq.own 1 (by omega);rw[h.l1]at h1;obtain⟨g5,c5,e5,_,_,Ok⟩:=pC h1 (by omega);rw[hn]at e5 Ok;obtain⟨cs,hcs⟩:=jx (h.aq.own 1 (by omega)) (b:=g5) (by rw[e5];rfl);have hw:=h.aq.own 2 (by omega);rw[h.l2]at hw;obtain⟨g,c,e,_,_,hN⟩:=pC hw (by simp);rw[h.v2]at e;cases e;refine⟨g0,c0,g5,c5,e0,e5,⟨h.bD,by rw[dt _ _ _ _ _ _ h.bB];rfl,by rw[dt _ _ _ _ _ _ h.b4,<-e0];rfl,aR _ _ 0 _ _ h.b4,by rw[dt _ _ _ _ _ _ h.b5,<-e5];rfl,aR _ _ 0 _ _ h.b5,hN 0 (by simp)⟩,sB,λj hj=>⟨Ok j hj,aR _ _ j _ _ hcs⟩⟩
theorem zjw{g:Nat}{x:zF}{t:zI}(h:W.heap[g]?=za (zp #[x] t (0,0))){b:Nat}{ob:Obj}(hb:W.heap[b]?=za ob):(W.setCell ⟨g,0,zh⟩ x).heap[b]?=za ob:=by
 by_cases e:b=g
 ·subst e;rw[dx W b 0 _ _ x h,<-hb,h]
  rfl
 ·exact(cS _ _ _ _ (by exact e)).trans hb
def WbR(w:zH)(d:aE)(o:List Nat)(e:Ending)(w':zH):Prop:=∃(K g1 c1 g2 c2:Nat) (nb:List Int),qd (ai d) (au d) K/\(aF (ai d) (au d) K 0).length=K/\e=.returned (.tuple #[zi (za ⟨g1,0,zh⟩) K c1,zi (za ⟨g2,0,zh⟩) d.tag.length c2])/\dQ w.heap.size w' (zi (za ⟨g1,0,zh⟩) K c1) (aO (aF (ai d) (au d) K 0))/\dQ w.heap.size w' (zi (za ⟨g2,0,zh⟩) d.tag.length c2) nb/\uP d o (aF (ai d) (au d) K 0) nb/\zG w.heap.size w w'
theorem ztf(cv nv tv ev:zF)(d:aE)(o:List Nat)(w:zH)(hs:dk 0 w cv nv tv ev d)(hf:cL d)
  (cQ:bb<w.heap.size) (Al:∀i,i<d.tag.length->w.cell? ⟨bb,bo+i,zh⟩=za (zw .i64 ((o.getD i 0:Nat):Int))) (ho:∀s,s<d.tag.length->o.getD s 0<d.tag.length) (hA:∀s t,s<d.tag.length->t<d.tag.length->(o.getD s 0=o.getD t 0↔cD (ai d) (au d) s t)):
  Calls prog 23 #[zK #[cv,zw .i64 d.width,nv,tv,ev],zi (za ⟨bb,bo,zh⟩) d.tag.length bc] w (WbR w d o):=by
 have du:prog.follows .mixedOrders=true:=by kernel_rfl
 have jG:=hf.n1;have fc:=hf.n2;have Hs:zy _:=hs;obtain⟨⟨ca,cc,rfl,cm,cx⟩,⟨na,nc,rfl,nm,nx⟩,⟨ta,tc,rfl,tm,tx⟩,⟨ea,ec,rfl,em,ex⟩⟩:=hs;clear cx nx tx ex;have HF:zy (cL d):=hf;have Hbq:zy _:=Al;have Ho:zy _:=ho;have HA:zy _:=hA;clear hf Al ho hA;obtain⟨W1,bk⟩:∃W1,((((w.alloc (zp #[.slice ca d.aD.length cc,zw .i64 d.width,.slice na d.next.length nc,.slice ta d.tag.length tc,.slice ea d.fin.length ec] 25)).alloc (zp #[zi (za ⟨bb,bo,zh⟩) d.tag.length bc] 23)).alloc (zp #[zi zh 0 0] 23)).alloc (zp #[zi zh 0 0] 23))=W1:=⟨_,rfl⟩;have bT:W1.heap.size=w.heap.size+4:=by rw[<-bk];simp
 have aP:zG w.heap.size w W1:=by rw[<-bk];exact(((aC).alloc (by simp) _).alloc (by simp;omega) _).alloc (by simp;omega) _
 have xD:W1.heap[w.heap.size]?=za (zp #[.slice ca d.aD.length cc,zw .i64 d.width,.slice na d.next.length nc,.slice ta d.tag.length tc,.slice ea d.fin.length ec] 25 (0,0)):=by
  rw[<-bk,Below.heap_alloc _ _ _ (by simp;omega),Below.heap_alloc _ _ _ (by simp;omega),Below.heap_alloc _ _ _ (by simp)];exact aU _ _
 have xB:W1.heap[w.heap.size+1]?=za (zp #[zi (za ⟨bb,bo,zh⟩) d.tag.length bc] 23 (0,0)):=by
  rw[<-bk,Below.heap_alloc _ _ _ (by simp),Below.heap_alloc _ _ _ (by simp)];have:=aU (w.alloc (zp #[.slice ca d.aD.length cc,zw .i64 d.width,.slice na d.next.length nc,.slice ta d.tag.length tc,.slice ea d.fin.length ec] 25)) (zp #[zi (za ⟨bb,bo,zh⟩) d.tag.length bc] 23)
  simpa using this
 have x4:W1.heap[w.heap.size+1+1]?=za (zp #[zi zh 0 0] 23 (0,0)):=by
  rw[<-bk,Below.heap_alloc _ _ _ (by simp)];have:=aU ((w.alloc (zp #[.slice ca d.aD.length cc,zw .i64 d.width,.slice na d.next.length nc,.slice ta d.tag.length tc,.slice ea d.fin.length ec] 25)).alloc (zp #[zi (za ⟨bb,bo,zh⟩) d.tag.length bc] 23)) (zp #[zi zh 0 0] 23)
  simpa using this
 have x5:W1.heap[w.heap.size+1+1+1]?=za (zp #[zi zh 0 0] 23 (0,0)):=by
  rw[<-bk];have:=aU (((w.alloc (zp #[.slice ca d.aD.length cc,zw .i64 d.width,.slice na d.next.length nc,.slice ta d.tag.length tc,.slice ea d.fin.length ec] 25)).alloc (zp #[zi (za ⟨bb,bo,zh⟩) d.tag.length bc] 23)).alloc (zp #[zi zh 0 0] 23)) (zp #[zi zh 0 0] 23)
  simpa using this
 obtain⟨W2,dY⟩:∃W2,W1.alloc (zp #[zw .i64 (-1)] 3)=W2:=⟨_,rfl⟩;have aL:zG W1.heap.size W1 W2:=by rw[<-dY];exact aC
 have rB:W2.heap.size=w.heap.size+5:=by rw[<-dY];simp[bT]
 have xm:W2.heap[w.heap.size+4]?=za (zp #[zw .i64 (-1)] 3 (0,0)):=by rw[<-dY,<-bT];exact aU _ _
 have zxQ:=zpw (-1) (w.heap.size+4) d.tag.length W2 (by rw[dt _ _ _ _ _ _ xm];rfl) (by omega) (by omega) (by omega);obtain⟨q0,q1,q2,q3,q4⟩:=bL (aY xD aL);have HXD:zy _:=aY xD aL;have Vy:zy _:=aY xB aL;have xQ:zy _:=aY x4 aL;have r7:zy _:=aY x5 aL;have n6:zy (zG w.heap.size w W2):=aP.trans (aL.mono aP.size);have V1:zy _:=bT;have Hs2:zy _:=rB;clear xD xB x4 x5 aL xm aP rB;refine(callsIn_wide (n:=5)).1 ?_;refine callsIn_of_wp_marks func23 rfl trivial ?_ rfl;refine wpIn_wide.2 ?_;simp only[ntmps23,List.size_toArray,iG,n4,Nat.reduceAdd,Nat.reduceSub,Array.replicate_succ,Array.replicate_zero,List.push_toArray,List.append_toArray,List.nil_append,List.cons_append]
 go_wp2_with fail
 refine zxQ.mono ?_;rintro e w3 ⟨rfl,vf,cN⟩;have B0:=Hbq.out 0 (by omega);have yu:zG w.heap.size w w3:=n6.out.trans (cN.mono n6.out.size);have cb0:∀W,zG w.heap.size w W->W.cell? ⟨bb,bo,zh⟩=za (zw .i64 ((o.getD 0 0:Nat):Int)):=λW hW=>(hW.cell (p:=⟨bb,bo,zh⟩) cQ).trans B0
 have IX:=Ho.out 0 (by omega);have dF:w.heap.size+4<=W2.heap.size:=by have:=Hs2.out;omega
 have gY:zy _:=λnq=>mI.start (x0:=o.getD 0 0) nq (aY HXD.out cN) (aY Vy.out cN) (aY xQ.out cN) (aY r7.out cN) vf dF yu (by omega)
 have jU:=az vf;obtain⟨W4,uX⟩:∃W4,w3.setCell ⟨w.heap.size+1+1+1,0,zh⟩ (zi (za ⟨W2.heap.size,0,zh⟩) d.tag.length d.tag.length)=W4:=⟨_,rfl⟩;obtain⟨W5,gL⟩:∃W5,W4.alloc (zp #[zw .i64 0] 3)=W5:=⟨_,rfl⟩;obtain⟨W6,lJ⟩:∃W6,W5.setCell ⟨w.heap.size+1+1,0,zh⟩ (zi (za ⟨w3.heap.size,0,zh⟩) 1 1)=W6:=⟨_,rfl⟩;have s4:W4.heap.size=w3.heap.size:=by rw[<-uX];simp[World.setCell]
 have o4:∀{b:Nat} {ob:Obj},b≠w.heap.size+1+1+1->w3.heap[b]?=za ob->W4.heap[b]?=za ob:=λhb h=>by rw[<-uX];exact(cS _ _ _ _ (by exact hb)).trans h
 have x54:=dx w3 (w.heap.size+1+1+1) 0 _ _ (zi (za ⟨W2.heap.size,0,zh⟩) d.tag.length d.tag.length) (aY r7.out cN);rw[uX]at x54;have Rr:zG W4.heap.size W4 W5:=by rw[<-gL];exact aC
 have x45:=aY (o4 (by omega) (aY xQ.out cN)) Rr;have o6:∀{b:Nat} {cs:Array zF} {e:zI},b≠w.heap.size+1+1->W4.heap[b]?=za (zp cs e (0,0))->W6.heap[b]?=za (zp cs e (0,0)):=λhb h=>by rw[<-lJ];exact(cS _ _ _ _ (by exact hb)).trans (aY h Rr)
 have x56:=o6 (by omega) x54;have xB6:=o6 (by omega) (o4 (by omega) (aY Vy.out cN));have xr6:=o6 (by omega) (o4 (by omega) vf);have y5:w3.cell? ⟨w.heap.size+1+1+1,0,zh⟩=za (zi zh 0 0):=by rw[dt _ _ _ _ _ _ (aY r7.out cN)];rfl
 have f5:=aR _ _ 0 _ _ (aY r7.out cN);have y4:W5.cell? ⟨w.heap.size+1+1,0,zh⟩=za (zi zh 0 0):=by rw[dt _ _ _ _ _ _ x45];rfl
 have f4:=aR _ _ 0 _ _ x45;have y56:W6.cell? ⟨w.heap.size+1+1+1,0,zh⟩=za (zi (za ⟨W2.heap.size,0,zh⟩) d.tag.length d.tag.length):=by rw[dt _ _ _ _ _ _ x56];rfl
 have yB6:W6.cell? ⟨w.heap.size+1,0,zh⟩=za (zi (za ⟨bb,bo,zh⟩) d.tag.length bc):=by rw[dt _ _ _ _ _ _ xB6];rfl
 have yr6:W6.cell? ⟨W2.heap.size,o.getD 0 0,zh⟩=za (zw .i64 (-1)):=by rw[dt _ _ _ _ _ _ xr6,JN,D1 _ IX,ae IX]
 have fr6:=aR _ _ (o.getD 0 0) _ _ xr6;have E3:zG w.heap.size w W6:=by
  have h4:zG w.heap.size w W4:=by rw[<-uX];exact yu.setCell (p:=⟨w.heap.size+1+1+1,0,zh⟩) (by show w.heap.size<=w.heap.size+1+1+1;omega) _
  have h5:=h4.trans (Rr.mono h4.size);rw[<-lJ];exact h5.setCell (p:=⟨w.heap.size+1+1,0,zh⟩) (by show w.heap.size<=w.heap.size+1+1;omega) _
 have yb6:=cb0 W6 E3;have s6:W6.heap.size=w3.heap.size+1:=by rw[<-lJ,<-gL];simp[World.setCell,s4]
 rw[uX,gL,lJ]at gY;have cG:((o.getD 0 0:Nat):Int)<(d.tag.length:Int):=by omega
 have fk:(0:Int)<(d.tag.length:Int):=by omega
 have Hs6:zy _:=s6;clear zxQ q0 q1 q2 q3 q4 vf cN cb0 HXD Vy xQ r7 bk dY bT B0 x54 x45 x56 xB6 xr6 Rr E3 s6 o6 o4;generalize gz:o.getD 0 0=x0 at *;go_wp2;refine zdn 5 du (by kernel_rfl) rfl rfl rfl ?_;intro os aX;simp only[gG,kQ]at aX;subst aX
 repeat (go_big_quiet_step (fail))
 refine wpQuiet_nil ?_;intro w' hw' K hK;obtain⟨nq,rfl⟩:=hw'
 first|go_big_move|go_big_op
 refine hK _ _ ?_;clear hK K;obtain⟨v,l,hv1,hST⟩:=gY.out nq;have zvN:zy (Kq w #[.slice ca d.aD.length cc,zw .i64 d.width,.slice na d.next.length nc,.slice ta d.tag.length tc,.slice ea d.fin.length ec] (zi (za ⟨bb,bo,zh⟩) d.tag.length bc) d o 0 (w3.heap.size+1) [] 0 ((List.replicate d.tag.length (-1:Int)).set x0 0) v l _):=⟨by rw[xq];exact hST,by rw[xq,<-gz];exact uP.start (by omega) Ho.out HA.out,λx hx=>by cases hx⟩;clear gY hST yr6 fr6 y56 yB6 yb6 y4 f4 y5 f5 uX gL lJ;go_wp2;refine wp_loop_ghost_k (λq a W=>∃(k gN:Nat) (nb:List Int) (v:Nat->zF) (l:Nat->List Int) (Ds:List Nat) (u7 u8 u9 Pu Pv Pw Px Py Pz u16 u17 u18 u19 u20 u21 u22 u23 u24 u25 u26 u27 u28 u29 u30 u31 u32 u33 u34 u35 u36 u37 u38 u39 u40 u41 u42 u43 u44 u45 u46 u47 u48 u49 u50 u51 u52 u53 u54:zF),q=d.tag.length-k/\k<=(aF (ai d) (au d) k 0).length/\qd (ai d) (au d) k/\zy (Kq w #[.slice ca d.aD.length cc,zw .i64 d.width,.slice na d.next.length nc,.slice ta d.tag.length tc,.slice ea d.fin.length ec] (zi (za ⟨bb,bo,zh⟩) d.tag.length bc) d o k gN Ds 0 nb v l W)/\zy (Ds.Nodup/\∀x∈Ds,w.heap.size<=x)/\a={tmps:=#[zK #[.slice ca d.aD.length cc,zw .i64 d.width,.slice na d.next.length nc,.slice ta d.tag.length tc,.slice ea d.fin.length ec],zi (za ⟨bb,bo,zh⟩) d.tag.length bc,zJ (za ⟨w.heap.size,0,zh⟩),zJ (za ⟨w.heap.size+1,0,zh⟩),zJ (za ⟨w.heap.size+1+1,0,zh⟩),zJ (za ⟨w.heap.size+1+1+1,0,zh⟩),zJ (za ⟨gN,0,zh⟩),u7,u8,u9,Pu,Pv,Pw,Px,Py,Pz,u16,u17,u18,u19,u20,u21,u22,u23,u24,u25,u26,u27,u28,u29,u30,u31,u32,u33,u34,u35,u36,u37,u38,u39,u40,u41,u42,u43,u44,u45,u46,u47,u48,u49,u50,u51,u52,u53,u54,undef,undef],defers:=Ds.map zty}) d.tag.length ?start ?round
 case start=>exact⟨0,_,_,v,l,[],_,_,_,_,_,_,_,_,_,_,_,_,_,_,_,_,_,_,_,_,_,_,_,_,_,_,_,_,_,_,_,_,_,_,_,_,_,_,_,_,_,_,_,_,_,_,_,_,rfl,bH _,λ_ h=>absurd h (dP _),zvN,⟨List.nodup_nil,λ_ h=>by cases h⟩,by rw[<-Hs6.out];rfl⟩
 case round=>
  rintro q a W ⟨k,gN,nb,v,l,Ds,u7,u8,u9,Pu,Pv,Pw,Px,Py,Pz,u16,u17,u18,u19,u20,u21,u22,u23,u24,u25,u26,u27,u28,u29,u30,u31,u32,u33,u34,u35,u36,u37,u38,u39,u40,u41,u42,u43,u44,u45,u46,u47,u48,u49,u50,u51,u52,u53,u54,hq,cY,hG,HI,QH,rfl⟩ J K hJ hK;have hlen:=HI.out.wk.len;obtain⟨g0,c0,e0,sB⟩:=HI.out.st.aq.wR (i:=0) (by omega) HI.out.st.l0 (by have:=(Cj (ai d) (au d) 0 k (bH _));obtain⟨t,ht⟩:=this;rw[ht,xq];simp);have z4:W.cell? ⟨w.heap.size+1+1,0,zh⟩=za (zi (za ⟨g0,0,zh⟩) (aF (ai d) (au d) k 0).length c0):=by rw[dt _ _ _ _ _ _ HI.out.st.b4,<-e0];rfl
  have f4:=aR _ _ 0 _ _ HI.out.st.b4;have f5:=aR _ _ 0 _ _ HI.out.st.b5;have zN:W.cell? ⟨gN,0,zh⟩=za (zw .i64 (k:Int)):=by
   have hw:=HI.out.st.aq.own 2 (by omega);rw[HI.out.st.l2]at hw;obtain⟨g,c,e,_,_,h⟩:=pC hw (by simp);rw[HI.out.st.v2]at e;cases e;exact h 0 (by simp)
  have kx:zy _:=e0;clear e0 sB
  by_cases hk:k<(aF (ai d) (au d) k 0).length
  ·have cG:(k:Int)<((aF (ai d) (au d) k 0).length:Int):=by omega
   go_wp2
   rename_i K2 NU
   have zvH:zy (∀x∈Ds,x<W.heap.size):=λx hx=>(gF.1 (HI.out.mr x hx)).1
   have Fj:=HI.out.st.be.size;refine(wpIn_wide (n:=5)).1 ?_;refine zhJ (encs:=Gp) (N:=256) (gf:=24) (I:=λc W=>∃nb v l,Kq w #[.slice ca d.aD.length cc,zw .i64 d.width,.slice na d.next.length nc,.slice ta d.tag.length tc,.slice ea d.fin.length ec] (zi (za ⟨bb,bo,zh⟩) d.tag.length bc) d o k gN Ds c nb v l W)
    (a₁:=λc=>{tmps:=#[zK #[.slice ca d.aD.length cc,zw .i64 d.width,.slice na d.next.length nc,.slice ta d.tag.length tc,.slice ea d.fin.length ec],zi (za ⟨bb,bo,zh⟩) d.tag.length bc,zJ (za ⟨w.heap.size,0,zh⟩),zJ (za ⟨w.heap.size+1,0,zh⟩),zJ (za ⟨w.heap.size+1+1,0,zh⟩),zJ (za ⟨w.heap.size+1+1+1,0,zh⟩),zJ (za ⟨gN,0,zh⟩),zw .i64 (c:Int),u8,u9,Pu,Pv,Pw,Px,Py,Pz,u16,u17,u18,u19,zw .i64 (k:Int),zi (za ⟨g0,0,zh⟩) (aF (ai d) (au d) k 0).length c0,zw .i64 ((aF (ai d) (au d) k 0).length:Int),.bool true,u24,u25,zw .i64 (c:Int),u27,u28,u29,u30,u31,u32,u33,u34,u35,u36,u37,u38,u39,u40,u41,u42,u43,u44,u45,u46,u47,u48,u49,u50,u51,u52,u53,u54,undef,undef],defers:=[]}) ?h1 ?hg ?eg ?hseq ?hps ?hI ?h0 ?assign ?body ?done
   case h1=>omega
   case hg=>rfl
   case eg=>exact enters_of func24 (by kernel_rfl) rfl
   case hseq=>exact zd7 4 (by omega)
   case hps=>exact λ_=>rfl
   case hI=>exact Kq.own w _ _ d o k gN Ds _ zvH.out Fj
   case h0=>exact⟨nb,v,l,HI.out⟩
   case assign=>
    intro l k W K hK;unfold Gp
    gi_wp2
    exact hK
   case body=>
    clear hJ hK NU HI kx z4 zN f4 f5 hlen zvN;rintro l0 c W5 sD ⟨nb,v,l,h⟩ hc;have pS:k<(aF (ai d) (au d) k c).length:=fR hk (Qd _ _ _ (bH _));obtain⟨mg,qz,hold⟩:=h.wk.next HF.out pS hc Ho.out HA.out rfl;have ue:=h.wk.lt _ (kO pS);have hlen:=h.wk.len;have uK:zy _:=qz;have Bv:zy _:=hold;have zR:zy (∀X,zG w.heap.size w X->Calls prog 25 #[zK #[.slice ca d.aD.length cc,zw .i64 d.width,.slice na d.next.length nc,.slice ta d.tag.length tc,.slice ea d.fin.length ec],zw .i64 (((aF (ai d) (au d) k c).getD k 0:Nat):Int),zw .i64 (c:Int)] X λe w'=>e=.returned (zw .i64 ((ai d ((aF (ai d) (au d) k c).getD k 0) c:Nat):Int))/\zG X.heap.size X w'):=λX hX=>by
     have:=zl8 _ _ _ _ d (((aF (ai d) (au d) k c).getD k 0:Nat):Int) c X (Hs.out.below hX) HF.out (by omega) (by omega) hc;rw[T4 HF.out ue hc]at this;exact this
    have H:zy _:=h;have bN:=Ho.out _ mg;have cb:∀X,zG w.heap.size w X->X.cell? ⟨bb,bo+ai d ((aF (ai d) (au d) k c).getD k 0) c,zh⟩=za (zw .i64 ((o.getD (ai d ((aF (ai d) (au d) k c).getD k 0) c) 0:Nat):Int)):=λX hX=>(hX.cell (p:=⟨bb,bo+ai d ((aF (ai d) (au d) k c).getD k 0) c,zh⟩) cQ).trans (Hbq.out _ mg)
    have CO:zy _:=cb;clear qz hold h cb;obtain⟨p0,r0,p5,r5,e0,e5,L,sB,Ok⟩:=H.out.st.look (by omega) H.out.wk.nl (by omega);have kx:zy _:=e0;have Ke:zy _:=e5;have z0:=sB k pS;have CQ:zy _:=H.out.wk.nl;generalize aX:aF (ai d) (au d) k c=os at *;have zxG:zy _:=aX;generalize kI:os.getD k 0=s0 at *;generalize hx:ai d s0 c=x at *;generalize zB9:o.getD x 0=bx at *;obtain⟨q0,q1,q2,q3,q4⟩:=bL L.zD;have zB:=L.zB;have z4:=L.z4;have z5:=L.z5;have zN:=L.zN;have fA:(k:Int)<(os.length:Int):=by omega
    have BP:=H.out.st.be;have hst:∀X,zG w.heap.size w X->CallsIn (Fence.wide.inRound l0) (5-1-1-1) prog 25 #[zK #[.slice ca d.aD.length cc,zw .i64 d.width,.slice na d.next.length nc,.slice ta d.tag.length tc,.slice ea d.fin.length ec],zw .i64 (s0:Int),zw .i64 (c:Int)] X λe w'=>e=.returned (zw .i64 (x:Int))/\zG X.heap.size X w':=λX hX=>CallsIn.inRound l0 (callsIn_wide.2 (zR.out X hX))
    clear sB Ok L hst e0 e5
    gi_wp2
    rename_i K3 hK3
    refine PE 6 (λw'=>∃n,w'=W5.drewN n) du ⟨1,rfl⟩ (by rintro ⟨_,_,h⟩;exact h) (by decide) (by kernel_rfl) rfl ?_;intro os aX;simp only[gG,kQ]at aX;subst aX
    repeat (go_big_quiet_step (fail))
    refine wpQuiet_nil ?_;rintro w' ⟨nq,rfl⟩ r hr;simp only[rT,qi]at hr;subst hr
    go_wp2_with (go_at_call 25;refine(zR.out _ (below_drewN BP nq)).mono ?_;rintro e w6 ⟨rfl,gM⟩)
    have Yh:zG W5.heap.size W5 w6:=(below_drewN (Below.refl _ _) nq).trans gM;have H6:=H.out.st.on Yh;rw[zxG.out]at H6;have pX:0<os.length:=by omega
    obtain⟨Z5,r0',p5',r5',f0,f5,L6,zAa,zwV⟩:=H6.look pX CQ.out (by omega);rw[kx.out]at f0;cases f0;rw[Ke.out]at f5;cases f5;have zB6:=L6.zB;have z46:=L6.z4;have z56:=L6.z5;have f46:=L6.f4;have zx:=CO.out w6 H6.be;obtain⟨zn,fn⟩:=zwV bx bN;have oy:(x:Int)<(d.tag.length:Int):=by omega
    have Dn:(bx:Int)<(d.tag.length:Int):=by omega
    have Vf:zy (KeepsOthers W5 w6):=Ga Yh;have HH6:zy _:=H6;clear L6 zAa zwV Yh gM H6 q0 q1 q2 q3 q4 zB z4 z5 zN z0;generalize iD:nb.getD bx 0=nx at *
    by_cases jV:nx=-1
    ·subst jV
     gi_wp2
     refine PE 8 (λw'=>∃n,w'=w6.drewN n) du ⟨1,rfl⟩ (by rintro ⟨_,_,h⟩;exact h) (by decide) (by kernel_rfl) rfl ?_;intro os aX;simp only[gG,kQ]at aX;subst aX
     repeat (go_big_quiet_step (fail))
     refine wpQuiet_nil ?_;rintro w' ⟨LK,rfl⟩ r hr;simp only[rT,qi]at hr;subst hr;go_wp2
     gi_wp2
     refine PE 8 (λw'=>∃n,w'=(w6.drewN LK).drewN n) du ⟨1,rfl⟩ (by rintro ⟨_,_,h⟩;exact h) (by decide) (by kernel_rfl) rfl ?_;intro os aX;simp only[gG,kQ]at aX;subst aX
     repeat (go_big_quiet_step (fail))
     refine wpQuiet_nil ?_;rintro w' ⟨nq3,rfl⟩ r hr;simp only[rT,qi]at hr;subst hr;have Al:zG w6.heap.size w6 (w6.drewN (LK+nq3)):=below_drewN (Below.refl _ _) _;have H7:=(HH6.out.on Al).put Ke.out CQ.out (j:=bx) (os.length:Int);obtain⟨X,hX⟩:∃X,(w6.drewN (LK+nq3)).setCell ⟨p5,bx,zh⟩ (zw .i64 (os.length:Int))=X:=⟨_,rfl⟩;rw[hX]at H7;have HKX:zy (KeepsOthers W5 X):=by rw[<-hX];exact(Vf.out.trans (Ga Al)).trans (KeepsOthers.setCell _ _ _)
     obtain⟨Z5,r0',p5',r5',f0,f5,L7,_,_⟩:=H7.look pX (by rw[qP];exact CQ.out) (by omega);rw[kx.out]at f0;cases f0;rw[Ke.out]at f5;cases f5;have z47:=L7.z4;have f47:=L7.f4;obtain⟨g8,c8,W8,Dh,hF8,Yz⟩:=Jt H7.aq 0 (by omega) (aO os) H7.l0 os.length (cW _) _ kx.out (x:Int) (by omega) (by have:=H7.size;omega) 23;obtain⟨z48,f48,H8⟩:=H7.app hF8 Yz;rw[kx.out]at z48;have HH8:zy _:=H8;have HK8:zy (KeepsOthers W5 (W8.setCell ⟨w.heap.size+1+1,0,zh⟩ (zi (za ⟨g8,0,zh⟩) (os.length+1) c8))):=(HKX.out.trans (Jy H7.aq (i:=0) (by omega) Yz)).trans (KeepsOthers.setCell _ _ _);clear H8 hF8 Yz H7 L7 zB6 z46 z56 f46 zx;go_wp2;clear zn fn
     gi_wp2
     obtain⟨qD,kJ⟩:=uK.out (by simp);refine⟨HK8.out.from _,nb.set bx (os.length:Int),upd v 0 (zi (za ⟨g8,0,zh⟩) (os.length+1) c8),bq (bq l 1 (nb.set bx (os.length:Int))) 0 (aO os++[(x:Int)]),⟨?_,?_,λy hy=>?_⟩⟩
     ·rw[qD];exact HH8.out
     ·rw[qD];exact kJ
     ·exact HK8.out.same _ _ (H.out.mr y hy) rfl
    ·gi_wp2
     refine PE 8 (λw'=>∃n,w'=w6.drewN n) du ⟨1,rfl⟩ (by rintro ⟨_,_,h⟩;exact h) (by decide) (by kernel_rfl) rfl ?_;intro os aX;simp only[gG,kQ]at aX;subst aX
     repeat (go_big_quiet_step (fail))
     refine wpQuiet_nil ?_;rintro w' ⟨LK,rfl⟩ r hr;simp only[rT,qi]at hr;subst hr;go_wp2;have BV:(nx == -1)=false:=by simpa using jV
     gi_wp2
     have qD:=Bv.out jV;have Al:zG w6.heap.size w6 (w6.drewN LK):=below_drewN (Below.refl _ _) LK;refine⟨((Vf.out.trans (Ga Al)).from _),nb,v,l,⟨?_,?_,λy hy=>?_⟩⟩
     ·rw[qD];exact HH6.out.on Al
     ·rw[qD,<-zxG.out];exact H.out.wk
     ·exact(Vf.out.trans (Ga Al)).same _ _ (H.out.mr y hy) rfl
   case done=>
    clear HI kx z4 zN f4 f5 hlen;rintro D W5 KG ⟨nb,v,l,H⟩ hD;refine NU _ _ ?_;have K8:w.heap.size<=D:=by omega
    have hnD:D∉Ds:=λhm=>by have:=zvH.out D hm;omega
    have zCE:(aF (ai d) (au d) k 256).length=(aF (ai d) (au d) (k+1) 0).length:=by rw[xp]
    obtain⟨p0,r0,p5,r5,e0,e5,L,_,_⟩:=H.st.look (by have:=Qd (ai d) (au d) k (bH 256);omega) H.wk.nl (by omega);have zN:=L.zN;have HH:zy _:=H;have FF:=H.wk.len;have HD:zy _:=hD;have sG:=Qd (ai d) (au d) k (bH 256);have hT:=H.st.turn (k+1);rw[show ((k+1:Nat):Int)=(k:Int)+1 by omega]at hT;have HT:zy _:=hT;clear hT H L e0 e5 hD KG;have wC:zG W5.heap.size W5 (W5.alloc (zp #[zw .i64 ((k:Int)+1)] 3)):=aC;have QW:zy _:=wC;clear wC;go_wp2;refine Handed.intro (d.tag.length-(k+1)) (by omega) (hJ _ _ _ ⟨k+1,_,nb,_,_,D::Ds,_,_,_,_,_,_,_,_,_,_,_,_,_,_,_,_,_,_,_,_,_,_,_,_,_,_,_,_,_,_,_,_,_,_,_,_,_,_,_,_,_,_,_,_,_,_,_,_,rfl,by omega,hG.next hk,⟨by rw[xp];exact HT.out,by rw[xp];exact HH.out.wk,λy hy=>?_⟩,⟨List.nodup_cons.2 ⟨hnD,QH.out.1⟩,λy hy=>?_⟩,rfl⟩)
    ·have hq:W5.heap[y]?=za (.deferred (za [])):=by
      rcases tn.1 hy with e|e
      ·rw[e];exact HD.out
      ·exact HH.out.mr y e
     exact(QW.out.block y (gF.1 hq).1).trans hq
    ·rcases tn.1 hy with e|e
     ·rw[e];exact K8
     ·exact QH.out.2 y e
  ·have cG:¬(k:Int)<((aF (ai d) (au d) k 0).length:Int):=by omega
   have cI:(aF (ai d) (au d) k 0).length=k:=by omega
   obtain⟨p0,r0,p5,r5,e0,e5,L,_,_⟩:=HI.out.st.look (by have:=(Cj (ai d) (au d) 0 k (bH _));obtain⟨t,ht⟩:=this;rw[ht,xq];simp) HI.out.wk.nl (by omega);rw[kx.out]at e0;cases e0;have z5:=L.z5;have Ke:zy _:=e5;have tH:zy _:=cI;clear L e5 cI hJ;go_wp2
   go_region
   have bZ:=HI.out.st.b4;rw[kx.out]at bZ;have cO:=HI.out.st.b5;rw[Ke.out]at cO;have BX:∀{b:Nat} {ob:Obj},W.heap[b]?=za ob->(((W.setCell ⟨w.heap.size+1+1,0,zh⟩ (zi (za ⟨g0,0,zh⟩) (aF (ai d) (au d) k 0).length c0)).setCell ⟨w.heap.size+1+1+1,0,zh⟩ (zi (za ⟨p5,0,zh⟩) d.tag.length r5)).drew).heap[b]?=za ob:=λh=>zjw (zjw bZ cO) (zjw bZ h)
   have pi:zG w.heap.size w (((W.setCell ⟨w.heap.size+1+1,0,zh⟩ (zi (za ⟨g0,0,zh⟩) (aF (ai d) (au d) k 0).length c0)).setCell ⟨w.heap.size+1+1+1,0,zh⟩ (zi (za ⟨p5,0,zh⟩) d.tag.length r5)).drew):=(((HI.out.st.be.setCell (p:=⟨w.heap.size+1+1,0,zh⟩) (by show w.heap.size<=w.heap.size+1+1;omega) _).setCell (p:=⟨w.heap.size+1+1+1,0,zh⟩) (by show w.heap.size<=w.heap.size+1+1+1;omega) _)).drew;generalize ((W.setCell ⟨w.heap.size+1+1,0,zh⟩ (zi (za ⟨g0,0,zh⟩) (aF (ai d) (au d) k 0).length c0)).setCell ⟨w.heap.size+1+1+1,0,zh⟩ (zi (za ⟨p5,0,zh⟩) d.tag.length r5)).drew=Wf at *;have V4:zy (∀{b:Nat} {ob:Obj},W.heap[b]?=za ob->Wf.heap[b]?=za ob):=BX;have Hb4:zy _:=bZ;have Hb5:zy _:=cO;have QY:zy _:=pi;clear BX bZ cO pi z4 z5 zN f4 f5;go_wp2;refine zfX Ds Wf QH.out.1 (λx hx=>V4.out (HI.out.mr x hx)) (λW' cK bJ cP mf pS=>?_);have hcell:∀(b:Nat) (cs:Array zF) (t:zI),W.heap[b]?=za (zp cs t (0,0))->W'.heap[b]?=za (zp cs t (0,0)):=λb cs t hb=>by
    have h1:=V4.out hb;refine(cK b (λhm=>?_)).trans h1;have h2:=V4.out (HI.out.mr b hm);rw[h1]at h2;cases h2
   have dh:zG w.heap.size w W':=QY.out.trans ⟨cP,mf,pS,by omega,λb hb=>cK b (λhm=>by have:=QH.out.2 b hm;omega)⟩;have Bi:=HI.out.st.cells hcell dh;have y4:W'.cell? ⟨w.heap.size+1+1,0,zh⟩=za (zi (za ⟨g0,0,zh⟩) (aF (ai d) (au d) k 0).length c0):=by rw[dt _ _ _ _ _ _ (hcell _ _ _ Hb4.out)];rfl
   have y5:W'.cell? ⟨w.heap.size+1+1+1,0,zh⟩=za (zi (za ⟨p5,0,zh⟩) d.tag.length r5):=by rw[dt _ _ _ _ _ _ (hcell _ _ _ Hb5.out)];rfl
   have KR:=Bi.aq.own 0 (by omega);rw[Bi.l0,kx.out]at KR;have Db:=Bi.aq.own 1 (by omega);rw[Bi.l1,Ke.out]at Db;refine⟨.tuple #[zi (za ⟨g0,0,zh⟩) (aF (ai d) (au d) k 0).length c0,zi (za ⟨p5,0,zh⟩) d.tag.length r5],by simp[results,results23,go_sem,y4,y5],k,g0,c0,p5,r5,nb,hG,tH.out,by rw[tH.out],?_,Ge Db (by omega),HI.out.wk,dh⟩;rw[tH.out]at KR;exact Ge KR (by omega)
end
section
attribute [local go_sem ↓] wp_at_zero wp_at_succ
theorem zrT(k:ByteArray):∀(ks:List ByteArray) (i:Nat),Instr.findNow .string (.string k) ((ks.zipIdx i).map λx=>{key:=.string x.1,val:=zw .i64 (x.2:Int),born:=x.2}) i=za (if eT ks k<ks.length then za (i+eT ks k,zw .i64 ((i+eT ks k:Nat):Int)) else zh)
 |[],i=>by simp[Instr.findNow,eT]
 |x::ks,i=>by
  rw[List.zipIdx_cons,Be];unfold Instr.findNow
  by_cases e:k=x
  ·subst e;have h0:eT (k::ks) k=0:=by simp[eT,List.findIdx_cons]
   have hb:(k==k)=true:=(MapKept.bytes_beq _ _).2 rfl;rw[h0];simp[Instr.sameNow,hb]
  ·have h1:eT (x::ks) k=eT ks k+1:=by simp[eT,List.findIdx_cons,e]
   have hb:(k==x)=false:=by
    cases h:(k==x)
    ·rfl
    ·exact absurd ((MapKept.bytes_beq _ _).1 h) e
   have ih:=zrT k ks (i+1);rw[h1];simp only[Instr.sameNow,hb];rw[ih];simp only[iG,Nat.add_lt_add_iff_right];rw[show i+1+eT ks k=i+(eT ks k+1) by omega]
theorem zoB{P:Program}{kt:zI}(w:zH)(hu:P.underlying kt=za .string)(ks:List ByteArray)(k:ByteArray):(Instr.findKey kt (.string k) (rI Value.string ks)).run P w=.ok (Cm ks k) w:=by
 refine MapKept.run_findKey hu ?_;have:=zrT k ks 0;simp only[jB]at this;exact this
theorem znO(r:Nat)(ks:List ByteArray)(k:ByteArray)(w:zH)(hg:w.heap[r]?=za (.map (ju Value.string ks) ks.length)):
  Calls prog 26 #[.map (za r),.string k] w (Hc Value.string w r ks k):=by
 have hm:=underlying47;have hc:∀(e:Bool) (k:ByteArray),(Instr.checkKey e 10000 9 (.string k)).run prog w=.ok () w:=λe k=>MapKept.run_checkKey underlying9 (by simp[MapKept.IsKey]) e 9999
 have hf:∀(ks:List ByteArray) (k:ByteArray),(Instr.findKey 9 (.string k) (rI Value.string ks)).run prog w=.ok (Cm ks k) w:=λks k=>zoB w underlying9 ks k
 have hl:=zmP Value.string w hm hc hf (Try.zyt w) r ks k hg;have hr:=az hg;have fc:=zkI Value.string ks
 by_cases hk:k∈ks
 ·simp only[hk,if_true,decide_true]at hl;have HN:zy (Hc Value.string w r ks k (.returned (.tuple #[zw .i64 (eT ks k:Int),.bool false])) w):=⟨by simp[hk],by unfold l5;rw[ae hk];exact hg,World.grownBy.refl _ _⟩;have FA:=zc.2 hk;generalize eT ks k=ix at *;clear hc hf hm fc
  go_enter func26,ntmps26
  go_wp2;refine bw (v:=.tuple #[zw .i64 (ix:Int),.bool false]) (by simp[results,results26,go_sem]) rfl HN.out
 ·simp only[hk,if_false,decide_false]at hl;have hp:=zpu Value.string w hm hc hf r ks k hk hg;obtain⟨W1,bk⟩:∃W1,{w with heap:=w.heap.setIfInBounds r (.map (ju Value.string (ks++[k])) (ks++[k]).length)}=W1:=⟨_,rfl⟩;have bT:W1.heap=w.heap.setIfInBounds r (.map (ju Value.string (ks++[k])) (ks++[k]).length):=by rw[<-bk]
  have HN:zy (Hc Value.string w r ks k (.returned (.tuple #[zw .i64 (ks.length:Int),.bool true])) W1):=by
   refine⟨by rw[zi4 hk];simp[hk],?_,?_⟩
   ·unfold l5;rw[ab hk,bT];exact(MapKept.heap_set hg).1
   ·refine⟨by rw[<-bk],by rw[<-bk],by rw[<-bk],by rw[bT];simp,λb _ hne=>?_⟩;rw[bT,(MapKept.heap_set hg).2 b (λe=>hne (by rw[e]))]
  rw[bk]at hp;have hlen:∀ty,(Builtin.len_ #[47] ty #[.map (za r)]).run prog w=.ok (zw .i64 (ks.length:Int)) w:=λty=>by
   simp[Builtin.len_,run_underlying hm,MapKept.run_getObj_map hg,goInt,Result.andThen,fc]
  clear hc hf hm fc bk bT
  go_enter func26,ntmps26
  go_wp2;refine bw (v:=.tuple #[zw .i64 (ks.length:Int),.bool true]) (by simp[results,results26,go_sem]) rfl HN.out
def ux(n:Nat):UInt8:=UInt8.ofNat n
def qu(R:Nat->Nat->Nat)(c k:Nat):List UInt8:=(List.range k).flatMap λj=>[ux (R j c),ux (R j c/256)]
theorem TM(R:Nat->Nat->Nat)(c k:Nat):qu R c (k+1)=qu R c k++[ux (R k c),ux (R k c/256)]:=by simp[qu,List.range_succ]
theorem ziX(R:Nat->Nat->Nat)(c k:Nat):(qu R c k).length=2*k:=by
 induction k with
 |zero=>rfl
 |succ k ih=>rw[TM,a6,ih];simp;omega
def jm(R:Nat->Nat->Nat)(K c:Nat):ByteArray:=⟨(qu R c K).toArray⟩
theorem zjL(n:Nat):((ux n).toNat:Int)=(n:Int)%256:=by
 unfold ux;rw[UInt8.toNat_ofNat'];omega
theorem zog{m n:Nat}(hm:m<65536)(hn:n<65536)(h1:ux m=ux n)(h2:ux (m/256)=ux (n/256)):m=n:=by
 have a:=congrArg UInt8.toNat h1;have b:=congrArg UInt8.toNat h2;unfold ux at a b;rw[UInt8.toNat_ofNat',UInt8.toNat_ofNat']at a b;omega
theorem zlp{R:Nat->Nat->Nat}{h c:Nat}:∀{k:Nat},(∀j,j<k->R j h<65536/\R j c<65536)->(qu R h k=qu R c k↔∀j,j<k->R j h=R j c)
 |0,_=>by simp[qu]
 |k+1,hb=>by
  rw[TM,TM];constructor
  ·intro e;obtain⟨e1,e2⟩:=List.append_inj e (by rw[ziX,ziX]);have ih:=(zlp (λj hj=>hb j (by omega))).1 e1;intro j hj
   by_cases po:j=k
   ·subst po;simp only[List.cons.injEq,and_true]at e2;exact zog (hb j hj).1 (hb j hj).2 e2.1 e2.2
   ·exact ih j (by omega)
  ·intro e;rw[(zlp (λj hj=>hb j (by omega))).2 (λj hj=>e j (by omega)),e k (by omega)]
theorem zsg{R:Nat->Nat->Nat}{K h c:Nat}(hb:∀j,j<K->R j h<65536/\R j c<65536):jm R K h=jm R K c↔je K R h c=true:=by
 rw[D7,<-zlp hb];unfold jm;constructor
 ·intro e;have:=congrArg (λb:ByteArray=>b.data.toList) e
  simpa using this
 ·intro e;rw[e]
theorem zgX{R:Nat->Nat->Nat}{K c:Nat}(hb:∀j x,j<K->x<=c->R j x<65536):eT ((aM K R c).map (jm R K)) (jm R K c)=da K R c:=by
 unfold eT da;rw[List.findIdx_map];have key:∀(l:List Nat),(∀h∈l,h<c)->l.findIdx ((λx=>decide (jm R K c=x)) ∘ jm R K)=l.findIdx (λh=>je K R h c):=by
  intro l
  induction l with
  |nil=>intro _;rfl
  |cons x l ih=>
   intro hl;rw[Gy,Gy,ih (λh hh=>hl h (by simp[hh]))];have hx:=hl x (by simp);have e:((λy=>decide (jm R K c=y)) ∘ jm R K) x=je K R x c:=by
    show decide (jm R K c=jm R K x)=_;rw[Ej,decide_eq_true_iff];rw[<-zsg (λj hj=>⟨hb j x hj (by omega),hb j c hj (ax _)⟩)];exact⟨λe=>e.symm,λe=>e.symm⟩
   rw[e]
 exact key _ (zd K R c)
theorem zgY{R:Nat->Nat->Nat}{K c:Nat}(hb:∀j x,j<K->x<=c->R j x<65536):jm R K c∈(aM K R c).map (jm R K)↔da K R c<(aM K R c).length:=by
 rw[<-zc,zgX hb,jK]
theorem zj6{R:Nat->Nat->Nat}{K c:Nat}(hb:∀j x,j<K->x<=c->R j x<65536):l5 ((aM K R c).map (jm R K)) (jm R K c)=(aM K R (c+1)).map (jm R K):=by
 unfold l5;rw[sR]
 by_cases h:da K R c<(aM K R c).length
 ·rw[ae ((zgY hb).2 h),ae h]
 ·rw[ab (λk=>h ((zgY hb).1 k)),ab h];simp
def yi(l:List UInt8):List zF:=l.map λb=>Value.int .u8 b.toNat
structure jk(W8:zH)(W:zH)(width:Int)(v:Nat->zF)(ls:Nat->List Int)(keys:List ByteArray)(p9 g9 c9:Nat)(xs:List UInt8):Prop where
 hd:lI W8 W8.heap.size W width v ls
 b7:W.heap[W8.heap.size+1+1]?=za (zp #[v 4] 23 (0,0))
 mp:W.heap[W8.heap.size+1+1+1]?=za (.map (ju Value.string keys) keys.length)
 b8:W.heap[W8.heap.size+1+1+1+1]?=za (zp #[.map (za (W8.heap.size+1+1+1))] 47 (0,0))
 C3:W.ownsRow (W8.heap.size+1) 5 1 (zi (za ⟨g9,0,zh⟩) xs.length c9) xs.length (yi xs)
 b9:W.heap[p9]?=za (zp #[zi (za ⟨g9,0,zh⟩) xs.length c9] 22 (0,0))
 wu:W8.heap.size+5<=p9
section
variable {W8 W W':zH} {width:Int} {v:Nat->zF} {ls:Nat->List Int} {keys:List ByteArray} {p9 g9 c9:Nat} {xs:List UInt8}
theorem jk.size(h:jk W8 W width v ls keys p9 g9 c9 xs):W8.heap.size+6<=W.heap.size:=by have:=az h.b9;have:=h.wu;omega
theorem jk.on(h:jk W8 W width v ls keys p9 g9 c9 xs)(hb:zG W.heap.size W W'):jk W8 W' width v ls keys p9 g9 c9 xs:=
 ⟨h.hd.on hb,aY h.b7 hb,aY h.mp hb,aY h.b8 hb,jy h.C3 hb,aY h.b9 hb,h.wu⟩
theorem jk.zwo(h:jk W8 W width v ls keys p9 g9 c9 xs):∃cs,W.heap[g9]?=za (zp cs 5 (0,0))/\W8.heap.size+1<=g9:=by
 obtain⟨h1,a9,h2⟩:=A0 h.C3 (k:=g9) rfl;exact⟨a9,h2,h1⟩
theorem jk.others(h:jk W8 W width v ls keys p9 g9 c9 xs){i:Nat}(hi:i<5)(hg:W.grownBy W' (v i).ownBlock):W'.heap[W8.heap.size+1+1]?=za (zp #[v 4] 23 (0,0))/\W'.heap[W8.heap.size+1+1+1]?=za (.map (ju Value.string keys) keys.length)/\W'.heap[W8.heap.size+1+1+1+1]?=za (zp #[.map (za (W8.heap.size+1+1+1))] 47 (0,0))/\W'.ownsRow (W8.heap.size+1) 5 1 (zi (za ⟨g9,0,zh⟩) xs.length c9) xs.length (yi xs)/\W'.heap[p9]?=za (zp #[zi (za ⟨g9,0,zh⟩) xs.length c9] 22 (0,0)):=by
 have o:∀{b:Nat} {cs:Array zF} {e:zI},e≠3->W.heap[b]?=za (zp cs e (0,0))->W'.heap[b]?=za (zp cs e (0,0)):=λhe hb=>h.hd.aq.others hi hg he hb
 refine⟨o (by decide) h.b7,(hg.block _ (gF.1 h.mp).1 (λe=>?_)).trans h.mp,o (by decide) h.b8,oI h.C3 λb cs hb=>o (by decide) hb,o (by decide) h.b9⟩;obtain⟨cs,hc⟩:=jx (h.hd.aq.own i hi) e.symm;exact D6 (hc.symm.trans h.mp)
theorem jk.field(h:jk W8 W width v ls keys p9 g9 c9 xs){i off:Nat}(hi:i<4)(ho:sK i=off){u:zF}{ys:List Int}(hF:aS W8.heap.size 5 W' (upd v i u) (bq ls i ys))(hg:W.grownBy W' (v i).ownBlock):
  W'.heap[W8.heap.size]?=za (zp (fH width v) 25 (0,0))/\jk W8 (W'.setCell ⟨W8.heap.size,off,zh⟩ u) width (upd v i u) (bq ls i ys) keys p9 g9 c9 xs:=by
 obtain⟨bN,hd⟩:=h.hd.fieldAt hi ho hF hg;obtain⟨a,b,c,e,f⟩:=h.others (i:=i) (by omega) hg;have s:∀{x:Nat} {ob:Obj},x≠W8.heap.size->W'.heap[x]?=za ob->(W'.setCell ⟨W8.heap.size,off,zh⟩ u).heap[x]?=za ob:=λhx hh=>(cS _ _ _ _ (by exact hx)).trans hh
 obtain⟨_,a9,Ao⟩:=A0 e (k:=g9) rfl;refine⟨bN,hd,by rw[bW _ _ (by omega)];exact s (by omega) a,s (by omega) b,s (by omega) c,oI e λx cs hx=>s (λe2=>?_) hx,s (by have:=h.wu;omega) f,h.wu⟩;rw[e2,bN]at hx;exact absurd (er hx) (by decide)
theorem jk.zBu(h:jk W8 W width v ls keys p9 g9 c9 xs)(n:Int):jk W8 (W.setCell ⟨W8.heap.size,1,zh⟩ (zw .i64 n)) n v ls keys p9 g9 c9 xs:=by
 have s:∀{x:Nat} {ob:Obj},x≠W8.heap.size->W.heap[x]?=za ob->(W.setCell ⟨W8.heap.size,1,zh⟩ (zw .i64 n)).heap[x]?=za ob:=λhx hh=>(cS _ _ _ _ (by exact hx)).trans hh
 refine⟨h.hd.width n,s (by omega) h.b7,s (by omega) h.mp,s (by omega) h.b8,oI h.C3 λx cs hx=>s (λe2=>?_) hx,s (by have:=h.wu;omega) h.b9,h.wu⟩;rw[e2,h.hd.box]at hx;exact absurd (er hx) (by decide)
theorem jk.head(h:jk W8 W width v ls keys p9 g9 c9 xs){u:zF}{ys:List Int}(hF:aS W8.heap.size 5 W' (upd v 4 u) (bq ls 4 ys))(hg:W.grownBy W' (v 4).ownBlock):
  W'.cell? ⟨W8.heap.size+1+1,0,zh⟩=za (v 4)/\W'.frozen? ⟨W8.heap.size+1+1,0,zh⟩=false/\jk W8 (W'.setCell ⟨W8.heap.size+1+1,0,zh⟩ u) width (upd v 4 u) (bq ls 4 ys) keys p9 g9 c9 xs:=by
 have hd:=h.hd.heads hF hg;obtain⟨a,b,c,e,f⟩:=h.others (i:=4) (by omega) hg;have s:∀{x:Nat} {ob:Obj},x≠W8.heap.size+1+1->W'.heap[x]?=za ob->(W'.setCell ⟨W8.heap.size+1+1,0,zh⟩ u).heap[x]?=za ob:=λhx hh=>(cS _ _ _ _ (by exact hx)).trans hh
 refine⟨by rw[dt _ _ _ _ _ _ a];rfl,aR _ _ 0 _ _ a,⟨hd.aq.other a (by decide) (oK _ _ _ _),s (by omega) hd.box,hd.below.setCell (p:=⟨W8.heap.size+1+1,0,zh⟩) (by show W8.heap.size<=W8.heap.size+1+1;omega) _,rfl⟩,?_,s (by omega) b,s (by omega) c,oI e λx cs hx=>s (λe2=>?_) hx,s (by have:=h.wu;omega) f,h.wu⟩
 ·rw[fN];exact dx _ _ _ _ _ _ a
 ·rw[e2,a]at hx;exact absurd (er hx) (by decide)
theorem jk.reg(h:jk W8 W width v ls keys p9 g9 c9 xs){ZP:List ByteArray}(hg:W.grownBy W' (za (W8.heap.size+1+1+1)))(hm:W'.heap[W8.heap.size+1+1+1]?=za (.map (ju Value.string ZP) ZP.length)):jk W8 W' width v ls ZP p9 g9 c9 xs:=by
 have o:∀{b:Nat} {cs:Array zF} {e:zI},W.heap[b]?=za (zp cs e (0,0))->W'.heap[b]?=za (zp cs e (0,0)):=λhb=>(hg.block _ (az hb) (λe=>by
  have e2:=Option.some.inj e;rw[e2]at hb;exact D6 (hb.symm.trans h.mp))).trans hb
 refine⟨⟨h.hd.aq.sI λi hi b hb=>?_,o h.hd.box,h.hd.below.grown hg (by have:=h.size;omega) (λb hb=>by cases hb;omega),rfl⟩,o h.b7,hm,o h.b8,oI h.C3 λb cs hb=>o hb,o h.b9,h.wu⟩;obtain⟨cs,hc⟩:=jx (h.hd.aq.own i hi) hb;rw[o hc,hc]
theorem jk.zwp(h:jk W8 W width v ls keys p9 g9 c9 xs){g' c':Nat}{ys:List UInt8}(ho:W'.ownsRow (W8.heap.size+1) 5 1 (zi (za ⟨g',0,zh⟩) ys.length c') ys.length (yi ys))(hg:W.grownBy W' (za g9)):
  W'.cell? ⟨p9,0,zh⟩=za (zi (za ⟨g9,0,zh⟩) xs.length c9)/\W'.frozen? ⟨p9,0,zh⟩=false/\jk W8 (W'.setCell ⟨p9,0,zh⟩ (zi (za ⟨g',0,zh⟩) ys.length c')) width v ls keys p9 g' c' ys:=by
 obtain⟨cs9,h9,eK⟩:=h.zwo;have o:∀{b:Nat} {cs:Array zF} {e:zI},e≠5->W.heap[b]?=za (zp cs e (0,0))->W'.heap[b]?=za (zp cs e (0,0)):=λhe hb=>(hg.block _ (az hb) (λe=>by
  have e2:=Option.some.inj e;rw[e2,h9]at hb;exact he (er hb).symm)).trans hb
 have x9:=o (by decide) h.b9;have s:∀{x:Nat} {ob:Obj},x≠p9->W'.heap[x]?=za ob->(W'.setCell ⟨p9,0,zh⟩ (zi (za ⟨g',0,zh⟩) ys.length c')).heap[x]?=za ob:=λhx hh=>(cS _ _ _ _ (by exact hx)).trans hh
 have st:∀{x:Nat} {cs:Array zF} {e:zI},e≠22->W'.heap[x]?=za (zp cs e (0,0))->(W'.setCell ⟨p9,0,zh⟩ (zi (za ⟨g',0,zh⟩) ys.length c')).heap[x]?=za (zp cs e (0,0)):=λhe hh=>s (λe2=>by rw[e2,x9]at hh;exact he (er hh).symm) hh
 have YV:W'.heap[W8.heap.size+1+1+1]?=za (.map (ju Value.string keys) keys.length):=(hg.block _ (gF.1 h.mp).1 (λe=>by
  have e2:=Option.some.inj e;rw[<-e2]at h9;exact D6 (h9.symm.trans h.mp))).trans h.mp
 refine⟨by rw[dt _ _ _ _ _ _ x9];rfl,aR _ _ 0 _ _ x9,⟨h.hd.aq.sI λi hi b hb=>?_,st (by decide) (o (by decide) h.hd.box),(h.hd.below.grown hg (by have:=h.size;omega) (λb hb=>by cases hb;omega)).setCell (p:=⟨p9,0,zh⟩) (by show W8.heap.size<=p9;have:=h.wu;omega) _,rfl⟩,st (by decide) (o (by decide) h.b7),s (by have:=h.wu;omega) YV,st (by decide) (o (by decide) h.b8),oI ho λx cs hx=>st (by decide) hx,dx _ _ _ _ _ _ x9,h.wu⟩;obtain⟨cs,hc⟩:=jx (h.hd.aq.own i hi) hb;rw[st (by decide) (o (by decide) hc),hc]
theorem jk.empty(h:jk W8 W width v ls keys p9 g9 c9 xs):jk W8 (W.setCell ⟨p9,0,zh⟩ (zi (za ⟨g9,0,zh⟩) 0 c9)) width v ls keys p9 g9 c9 []:=by
 have ho:W.ownsRow (W8.heap.size+1) 5 1 (zi (za ⟨g9,0,zh⟩) 0 c9) 0 (yi []):=by
  refine⟨rfl,?_⟩;rcases h.C3.2 with ⟨h0,_⟩|⟨g',cap',a9,hv',hg,hh,ry,kf,hsz,ht⟩
  ·cases h0
  ·cases hv'
   exact .inr ⟨g9,c9,a9,rfl,hg,hh,bH _,kf,hsz,by simp[yi]⟩
 exact(h.zwp (ys:=[]) ho (World.grownBy.refl _ _)).2.2
end
end
end Go.Proofs.Ytfajjdgkiilhfaa
