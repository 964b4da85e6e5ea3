import Derived.Test.YtfajjdgkiilhfaaC23
namespace Go.Proofs.Ytfajjdgkiilhfaa
open Proofs.Try
open Option renaming none->za,some->zh
open Value renaming slice->zi,int->zy
open Obj renaming cells->zn
open Go renaming Value->zp,World->zw,TypeId->zB
open RowKit renaming Below->zx
set_option maxHeartbeats 1000000
set_option maxRecDepth 100000
open Go.RowKit
attribute [local go_sem ↓] wp_at_zero wp_at_succ
section
variable {gt:Nat}{v:Nat -> zp}{l:Nat -> List Int}
def yU(cl nx tg en hd:List Int):Nat->List Int:=λi=>if i=0 then cl else if i=1 then nx else if i=2 then tg else if i=3 then en else if i=4 then hd else []
theorem ztx(cl nx tg en hd x:List Int):bq (yU cl nx tg en hd) 1 x=yU cl x tg en hd:=by
 funext i
 by_cases h:i=1
 ·subst h;rw[ez];rfl
 ·rw[a8 _ _ h];unfold yU;rw[ab h,ab h]
theorem ztQ(cl nx tg en hd x:List Int):bq (yU cl nx tg en hd) 2 x=yU cl nx x en hd:=by
 funext i
 by_cases h:i=2
 ·subst h;rw[ez];rfl
 ·rw[a8 _ _ h];unfold yU;rw[ab h,ab h]
theorem ztR(cl nx tg en hd x:List Int):bq (yU cl nx tg en hd) 3 x=yU cl nx tg x hd:=by
 funext i
 by_cases h:i=3
 ·subst h;rw[ez];rfl
 ·rw[a8 _ _ h];unfold yU;rw[ab h,ab h]
def vC(a b:zp):Nat->zp:=λi=>if i=0 then a else if i=4 then b else zi za 0 0
theorem zqC{W:zw}(h:aS gt 2 W v l):aS gt 5 W (vC (v 0) (v 1)) (yU (l 0) [] [] [] (l 1)):=by
 have nil:∀B,dQ B W (zi za 0 0) []:=λB=>⟨rfl,.inl ⟨rfl,rfl⟩⟩
 have nb:∀b,(Value.slice za 0 0).ownBlock≠zh b:=λb=>by simp[Value.ownBlock]
 refine⟨λi hi=>?_,λi j hi hj OG b hb=>?_⟩
 ·match i,hi with
  |0,_=>exact h.own 0 (by omega)
  |1,_=>exact nil _
  |2,_=>exact nil _
  |3,_=>exact nil _
  |4,_=>exact h.own 1 (by omega)
 ·have cl:∀i,i<5->i≠0->i≠4->vC (v 0) (v 1) i=zi za 0 0:=λi _ h0 h4=>by unfold vC;rw[ab h0,ab h4]
  by_cases i0:i=0
  ·subst i0
   by_cases j4:j=4
   ·subst j4;exact h.apart 0 1 (by omega) (by omega) (by omega) b hb
   ·rw[cl j hj (by omega) j4];exact nb b
  ·by_cases i4:i=4
   ·subst i4
    by_cases j0:j=0
    ·subst j0;exact h.apart 1 0 (by omega) (by omega) (by omega) b hb
    ·rw[cl j hj j0 (by omega)];exact nb b
   ·rw[cl i hi i0 i4]at hb;exact absurd hb (nb b)
theorem lD.start{We Wf W1:zw}{X:Xs}{N:Nat}{width:Int}(zA0:We.heap.size=gt)(hf:aS gt 2 Wf v l)(hb:zx gt We Wf)(hle:gt<=Wf.heap.size)
  (hg:(Wf.alloc (zn (fH width (vC (v 0) (v 1))) 25)).grownBy W1 za) (hm:gZ W1 (Wf.heap.size+1) N (λ_=>false)):
  lD We gt Wf.heap.size (W1.alloc (zn #[zi (zh ⟨Wf.heap.size+1,0,za⟩) N N] 37)) X N width (vC (v 0) (v 1)) (yU (l 0) [] [] [] (l 1)) (zi (zh ⟨W1.heap.size,0,za⟩) 1 1) (λ_=>Wf.heap.size+1) [fM]:=by
 have b1:zx Wf.heap.size Wf (Wf.alloc (zn (fH width (vC (v 0) (v 1))) 25)):=aC;have b2:zx (Wf.alloc (zn (fH width (vC (v 0) (v 1))) 25)).heap.size (Wf.alloc (zn (fH width (vC (v 0) (v 1))) 25)) W1:=(Below.refl _ _).grown hg (ax _) (by intro k h;cases h);have b3:zx W1.heap.size W1 (W1.alloc (zn #[zi (zh ⟨Wf.heap.size+1,0,za⟩) N N] 37)):=aC;have s1:Wf.heap.size+1=(Wf.alloc (zn (fH width (vC (v 0) (v 1))) 25)).heap.size:=by simp
 have s2:=b2.size;have d0:(Wf.alloc (zn (fH width (vC (v 0) (v 1))) 25)).heap[Wf.heap.size]?=zh (zn (fH width (vC (v 0) (v 1))) 25 (0,0)):=aU _ _;have bb:zx Wf.heap.size Wf (W1.alloc (zn #[zi (zh ⟨Wf.heap.size+1,0,za⟩) N N] 37)):=(b1.trans (b2.mono (by omega))).trans (b3.mono (by omega));refine⟨zA0,hb.trans (bb.mono hle),hle,(b3.block _ (by omega)).trans ((b2.block _ (az d0)).trans d0),(zqC hf).below bb,?_,λk hk=>?_⟩
 ·refine⟨rfl,.inr ⟨W1.heap.size,1,_,rfl,by omega,aU _ _,ax _,by unfold maxLen;omega,rfl,rfl⟩⟩
 ·have hk:k<1:=hk;obtain rfl:k=0:=by omega
  exact⟨by omega,_,hm.below b3,zqV X N,zpU X⟩
end
section
variable {w W:zw}{g:Nat}
def vB(w:zw)(code width:Int)(l:Nat->List Int)(e:Ending)(w':zw):Prop:=∃(gt:Nat) (v:Nat->zp),e=.returned (.tuple #[.agg (fH width v),zy .i64 code])/\w.heap.size<=gt/\aS gt 4 w' v l/\zx w.heap.size w w'
theorem vB.F6{code:Int}(h:zx w.heap.size w W):vB w code 0 (λ_=>[]) (.returned (.tuple #[.agg bm,zy .i64 code])) W:=⟨w.heap.size,λ_=>zi za 0 0,rfl,ax _,aS.nil _ _ _,h⟩
theorem TY{t:zB}(h:w.heap[g]?=zh (zn bm t (0,0))):w.cell? ⟨g,0,za⟩=zh (zi za 0 0)/\w.cell? ⟨g,1,za⟩=zh (zy .i64 0)/\w.cell? ⟨g,2,za⟩=zh (zi za 0 0)/\w.cell? ⟨g,3,za⟩=zh (zi za 0 0)/\w.cell? ⟨g,4,za⟩=zh (zi za 0 0):=by
 have:∀o,w.cell? ⟨g,o,za⟩=bm[o]?:=λ_=>dt _ _ _ _ _ _ h
 exact⟨this 0,this 1,this 2,this 3,this 4⟩
theorem TR{a b c d e:zp}{t:zB}(h:W.heap[g]?=zh (zn #[a,b,c,d,e] t (0,0))):W.frozen? ⟨g,0,za⟩=false/\W.frozen? ⟨g,1,za⟩=false/\W.frozen? ⟨g,2,za⟩=false/\W.frozen? ⟨g,3,za⟩=false/\W.frozen? ⟨g,4,za⟩=false:=
 ⟨aR _ _ 0 _ _ h,aR _ _ 1 _ _ h,aR _ _ 2 _ _ h,aR _ _ 3 _ _ h,aR _ _ 4 _ _ h⟩
theorem zgc(v:zp)(most:Int)(w:zw)(h:¬(1<=most/\most<=4000)):
  Calls prog 30 #[v,zy .i64 most] w (vB w 1 0 (λ_=>[])):=by
 have hb:aT most 1 4000=false:=by unfold aT;simp;omega
 obtain⟨W0,ay⟩:∃W0,w.alloc (zn bm 25)=W0:=⟨_,rfl⟩;have b0:zx w.heap.size w W0:=by rw[<-ay];exact aC
 have x0:W0.heap[w.heap.size]?=zh (zn bm 25 (0,0)):=by rw[<-ay];exact aU _ _
 obtain⟨p0,p1,p2,p3,p4⟩:=TY x0;obtain⟨f0,f1,f2,f3,f4⟩:=TR x0;have cb:=lp most 1 4000 W0;rw[hb]at cb;unfold bm at ay;have bQ:=ag ay;have HB:=ag b0;have HX:=ag x0;clear hb x0 b0 h ay
 go_enter func30,ntmps30
 go_upto_region 1 with fail
 rw[bQ.out];clear bQ
 go_wp2_with fail
 refine cb.mono ?_;rintro e W1 ⟨rfl,bk⟩;subst W1;clear cb;go_wp2;refine bw (v:=.tuple #[.agg #[zi za 0 0,zy .i64 0,zi za 0 0,zi za 0 0,zi za 0 0],zy .i64 1]) (by simp[results,results30,go_sem,p0,p1,p2,p3,p4]) rfl ?_;exact vB.F6 (Cc HB.out (ax _) _ _ _ _ _)
theorem zgb(v:zp)(rs:List dC)(most:Int)(w:zw)(hs:qJ 0 w v rs)(hsm:JG rs)(h:1<=most/\most<=4000)(hl:qf rs=false):
  Calls prog 30 #[v,zy .i64 most] w (vB w 2 0 (λ_=>[])):=by
 have hb:aT most 1 4000=true:=vz.2 h;obtain⟨W0,ay⟩:∃W0,w.alloc (zn bm 25)=W0:=⟨_,rfl⟩;have b0:zx w.heap.size w W0:=by rw[<-ay];exact aC
 have x0:W0.heap[w.heap.size]?=zh (zn bm 25 (0,0)):=by rw[<-ay];exact aU _ _
 have cb:=lp most 1 4000 W0;rw[hb]at cb;have cl:=zha v rs W0 (hs.below b0) hsm;rw[hl]at cl;unfold bm at ay;have bQ:=ag ay;have HB:=ag b0;have HX:=ag x0;clear hb x0 b0 h ay hs hsm hl
 go_enter func30,ntmps30
 go_upto_region 1 with fail
 rw[bQ.out];clear bQ
 go_wp2_with fail
 refine cb.mono ?_;rintro e W1 ⟨rfl,bk⟩;subst W1;clear cb
 go_wp2_with fail
 refine cl.mono ?_;rintro e W2 ⟨rfl,b2⟩;have x2:=(b2.block _ (az HX.out)).trans HX.out;obtain⟨p0,p1,p2,p3,p4⟩:=TY x2;obtain⟨f0,f1,f2,f3,f4⟩:=TR x2;have n6:=ag (bi HB.out HB.out.size b2);clear cl x2 b2;go_wp2;refine bw (v:=.tuple #[.agg #[zi za 0 0,zy .i64 0,zi za 0 0,zi za 0 0,zi za 0 0],zy .i64 2]) (by simp[results,results30,go_sem,p0,p1,p2,p3,p4]) rfl ?_;exact vB.F6 (Cc n6.out (ax _) _ _ _ _ _)
end
section
variable {n:Nat}{U work LR PC:Nat -> Prop}{sc:Nat -> Nat -> Nat}{of B6 DJ:Nat -> Nat}{gs:List (List Nat)}{g:List Nat}
def Hop(n:Nat)(U:Nat->Prop)(sc:Nat->Nat->Nat)(of:Nat->Nat)(work:Nat->Prop):Prop:=
 ∀s t k,s<n->t<n->U k->of s=of t->of (sc s k)≠of (sc t k)->work (of (sc s k))\/work (of (sc t k))
theorem Hop.cut{τ:Type}{B:Nat}{tr:Nat->τ}(h:Hop n U sc of work)(bn:∀s k,s<n->U k->sc s k<n)
  (h1:∀s t,s<n->t<n->B6 s=B6 t->of s=of t/\tr s=tr t) (Zx:∀s t,s<n->t<n->tr s=tr t->∀k,U k->(of (sc s k)=B↔of (sc t k)=B))
  (h3:∀s,s<n->B6 s=of s\/LR (B6 s)) (h4:∀b,work b->b≠B->LR b):Hop n U sc B6 LR:=by
 intro s t k hs ht hk e hne;obtain⟨e1,e2⟩:=h1 s t hs ht e;rcases h3 (sc s k) (bn s k hs hk) with f1|f1
 ·rcases h3 (sc t k) (bn t k ht hk) with f2|f2
  ·have hB:=Zx s t hs ht e2 k hk;rw[f1,f2]at hne ⊢;rcases h s t k hs ht hk e1 hne with w|w
   ·by_cases eb:of (sc s k)=B
    ·exact absurd (eb.trans (hB.1 eb).symm) hne
    ·exact .inl (h4 _ w eb)
   ·by_cases eb:of (sc t k)=B
    ·exact absurd ((hB.2 eb).trans eb.symm) hne
    ·exact .inr (h4 _ w eb)
  ·exact .inr f2
 ·exact .inl f1
theorem zqM{st:Nat->Nat->Nat}{an:Nat->Int×Int}{cls:Nat->Nat}(h:Hop n U sc of work)(hw:∀b,¬work b)(hst:∀s c,st s c=sc s (cls c))(hU:∀c,c<256->U (cls c))(bn:∀s k,s<n->U k->sc s k<n)
  (Lb:∀s t,s<n->t<n->of s=of t->an s=an t) {s t:Nat} (hs:s<n) (ht:t<n) (e:of s=of t):cD st an s t:=by
 refine ziT (λs t=>s<n/\t<n/\of s=of t) (λs t ⟨a,b,c⟩=>Lb s t a b c) (λs t c ⟨a,b,k⟩ hc=>?_) ⟨hs,ht,e⟩;rw[hst,hst];refine⟨bn s _ a (hU c hc),bn t _ b (hU c hc),?_⟩
 by_cases hne:of (sc s (cls c))=of (sc t (cls c))
 ·exact hne
 ·rcases h s t (cls c) a b (hU c hc) k hne with w|w
  ·exact absurd w (hw _)
  ·exact absurd w (hw _)
structure A9(n:Nat)(DJ of:Nat->Nat)(PC work:Nat->Prop)(gs:List (List Nat)):Prop where
 iff:∀s t,s<n->t<n->(of s=of t↔DJ s=DJ t/\∀g∈gs,(s∈g↔t∈g))
 num:∀s,s<n->of s=DJ s\/work (of s)
 up:∀b,PC b->work b
theorem A9.refl(n:Nat)(of:Nat->Nat)(work:Nat->Prop):A9 n of of work work []:=
 ⟨λs t _ _=>by simp,λ_ _=>.inl rfl,λ_ h=>h⟩
theorem A9.next(h:A9 n DJ of PC work gs)(h1:∀s t,s<n->t<n->(B6 s=B6 t↔of s=of t/\(s∈g↔t∈g)))(h2:∀s,s<n->B6 s=of s\/LR (B6 s))(h3:∀b,work b->LR b):A9 n DJ B6 PC LR (gs++[g]):=by
 refine⟨λs t hs ht=>?_,λs hs=>?_,λb hb=>h3 b (h.up b hb)⟩
 ·rw[h1 s t hs ht,h.iff s t hs ht];constructor
  ·rintro ⟨⟨a,b⟩,c⟩;exact⟨a,λx hx=>by rcases gH.1 hx with hx|hx;exact b x hx;simp at hx;subst hx;exact c⟩
  ·rintro ⟨a,b⟩;exact⟨⟨a,λx hx=>b x (gH.2 (.inl hx))⟩,b g (by simp)⟩
 ·rcases h2 s hs with e|e
  ·rcases h.num s hs with k|k
   ·exact .inl (e.trans k)
   ·exact .inr (by rw[e];exact h3 _ k)
  ·exact .inr e
theorem A9.same(h:A9 n DJ of PC work gs){s t:Nat}(hs:s<n)(ht:t<n)(e:DJ s=DJ t)(hg:∀g∈gs,(s∈g↔t∈g)):of s=of t:=(h.iff s t hs ht).2 ⟨e,hg⟩
def UF(of:Nat->Nat)(X:List Nat)(m:Nat)(s:Nat):Nat:=if s∈X then m else of s
theorem zq9{m:Nat}{X:List Nat}{b:Nat}(hm:∀s,s<n->of s<m)(hg:∀s∈g,of s=b)(hX:(∀s,s<n->(s∈X↔s∈g))\/(∀s,s<n->(s∈X↔of s=b/\s∉g))){s t:Nat}(hs:s<n)(ht:t<n):
  UF of X m s=UF of X m t↔of s=of t/\(s∈g↔t∈g):=by
 have a:=hm s hs;have c:=hm t ht;unfold UF;rcases hX with hX|hX
 ·have bT:=hX s hs;have mP:=hX t ht
  by_cases h1:s∈X<;>by_cases h2:t∈X
  ·rw[ae h1,ae h2];have k1:=bT.1 h1;have k2:=mP.1 h2;exact⟨λ_=>⟨(hg s k1).trans (hg t k2).symm,⟨λ_=>k2,λ_=>k1⟩⟩,λ_=>rfl⟩
  ·rw[ae h1,ab h2];exact⟨λe=>by omega,λ⟨_,e⟩=>absurd (mP.2 (e.1 (bT.1 h1))) h2⟩
  ·rw[ab h1,ae h2];exact⟨λe=>by omega,λ⟨_,e⟩=>absurd (bT.2 (e.2 (mP.1 h2))) h1⟩
  ·rw[ab h1,ab h2];exact⟨λe=>⟨e,⟨λk=>absurd (bT.2 k) h1,λk=>absurd (mP.2 k) h2⟩⟩,λe=>e.1⟩
 ·have bT:=hX s hs;have mP:=hX t ht
  by_cases h1:s∈X<;>by_cases h2:t∈X
  ·rw[ae h1,ae h2];have k1:=bT.1 h1;have k2:=mP.1 h2;exact⟨λ_=>⟨k1.1.trans k2.1.symm,⟨λk=>absurd k k1.2,λk=>absurd k k2.2⟩⟩,λ_=>rfl⟩
  ·rw[ae h1,ab h2];have k1:=bT.1 h1;exact⟨λe=>by omega,λ⟨e,f⟩=>absurd (mP.2 ⟨e ▸ k1.1,λk=>k1.2 (f.2 k)⟩) h2⟩
  ·rw[ab h1,ae h2];have k2:=mP.1 h2;exact⟨λe=>by omega,λ⟨e,f⟩=>absurd (bT.2 ⟨e.trans k2.1,λk=>k2.2 (f.1 k)⟩) h1⟩
  ·rw[ab h1,ab h2];refine⟨λe=>⟨e,⟨λk=>?_,λk=>?_⟩⟩,λe=>e.1⟩
   ·by_cases k2:t∈g
    ·exact k2
    ·exact absurd (mP.2 ⟨e ▸ hg s k,k2⟩) h2
   ·by_cases k2:s∈g
    ·exact k2
    ·exact absurd (bT.2 ⟨e.trans (hg t k),k2⟩) h1
end
def sJ(v:Nat->zp)(mi:Nat->Nat)(m:Nat):List zp:=(List.range m).map λx=>v (mi x)
theorem zlL(v:Nat->zp)(mi:Nat->Nat)(m:Nat):(sJ v mi m).length=m:=by simp[sJ]
theorem Uz(v:Nat->zp)(mi:Nat->Nat){m x:Nat}(h:x<m):(sJ v mi m)[x]?=zh (v (mi x)):=by simp[sJ,h]
theorem LZ{v v':Nat->zp}{mi mi':Nat->Nat}{m:Nat}(h:∀x,x<m->v (mi x)=v' (mi' x)):sJ v mi m=sJ v' mi' m:=uB λx hx=>h x (by simpa using hx)
theorem zq2(v:Nat->zp)(mi:Nat->Nat)(m:Nat):sJ v mi (m+1)=sJ v mi m++[v (mi m)]:=by simp[sJ,List.range_succ]
def wX(f:Nat->Nat)(x y:Nat):Nat->Nat:=λz=>if z=x then y else f z
theorem zsF(v:Nat->zp)(mi:Nat->Nat)(m b i:Nat):(sJ v mi m).set b (v i)=sJ v (wX mi b i) m:=by
 apply tz
 intro j;rw[List.getElem?_set]
 by_cases hj:j<m
 ·rw[Uz v mi hj,Uz v _ hj,zlL];unfold wX
  by_cases e:b=j
  ·rw[ae e,ae (by omega),ae e.symm]
  ·rw[ab e,ab (λh=>e h.symm)]
 ·have h1:∀f:Nat->Nat,(sJ v f m)[j]?=za:=λf=>qR (by rw[zlL];omega)
  rw[h1,h1,zlL]
  by_cases e:b=j
  ·rw[ae e,ab (by omega)]
  ·rw[ab e]
structure dE(gt:Nat)(W:zw)(p:Nat)(mv:zp)(m:Nat)(mi:Nat->Nat)(v:Nat->zp)(l:Nat->List Int)(N:Nat)(o wk:List Nat)(mem:Nat->List Nat):Prop where
 aq:aS gt N W v l
 two:2<=N
 box:W.heap[p]?=zh (zn #[v 0,mv,v 1] 66 (0,0))
 sM:gt+1<=p
 out:W.ownsRow (gt+1) 23 1 mv m (sJ v mi m)
 idx:∀x,x<m->2<=mi x/\mi x<N
 l0:l 0=aO o
 l1:l 1=aO wk
 lm:∀x,x<m->l (mi x)=aO (mem x)
def jj(g:Nat)(W W':zw):Prop:=∀(b:Nat) (cs:Array zp) (e:zB),e≠3->e≠66->b≠g->W.heap[b]?=zh (zn cs e (0,0))->W'.heap[b]?=zh (zn cs e (0,0))
theorem jj.refl(g:Nat)(W:zw):jj g W W:=λ_ _ _ _ _ _ h=>h
theorem jj.trans{g:Nat}{A B C:zw}(h:jj g A B)(k:jj g B C):jj g A C:=λb cs e h1 h2 h3 hb=>k b cs e h1 h2 h3 (h b cs e h1 h2 h3 hb)
theorem jj.chain{g g':Nat}{A B C:zw}(h:jj g A B)(hg:g'=g\/A.heap.size<=g')(k:jj g' B C):jj g A C:=λb cs e h1 h2 h3 hb=>k b cs e h1 h2 (λe2=>by have:=az hb;rcases hg with k1|k1<;>omega) (h b cs e h1 h2 h3 hb)
theorem jj.below{g:Nat}{A B:zw}(h:zx A.heap.size A B):jj g A B:=λ_ _ _ _ _ _ hb=>aY hb h
theorem jj.set{g:Nat}{A:zw}{q j:Nat}{u:zp}{cs:Array zp}{e:zB}(hg:A.heap[q]?=zh (zn cs e (0,0)))(he:e=3\/e=66\/q=g):jj g A (A.setCell ⟨q,j,za⟩ u):=λb uT e' h1 h2 h3 hb=>by
 refine(cS _ _ _ _ (λe2=>?_)).trans hb;have e3:b=q:=e2;subst e3;rw[hg]at hb;have:=er hb;rcases he with k|k|k
 ·exact h1 (this.symm.trans k)
 ·exact h2 (this.symm.trans k)
 ·exact h3 k
theorem jj.grown{g:Nat}{A B:zw}{row:Option Nat}(h:A.grownBy B row)(hr:∀q,row=zh q->(∃cs,A.heap[q]?=zh (zn cs 3 (0,0)))\/q=g):jj g A B:=λb cs e h1 h2 h3 hb=>by
 refine(h.block b (az hb) (λe2=>?_)).trans hb;rcases hr b e2.symm with ⟨uT,hc⟩|k
 ·rw[hc]at hb;exact h1 (er hb).symm
 ·exact h3 k
theorem jj.aq{g gt n:Nat}{W W':zw}{v:Nat->zp}{l:Nat->List Int}(h:aS gt n W v l){i:Nat}(hi:i<n)(hg:W.grownBy W' (v i).ownBlock):jj g W W':=jj.grown hg λ_ e=>by
 obtain⟨cs,hc⟩:=jx (h.own i hi) e;exact .inl ⟨cs,hc⟩
section
variable {gt:Nat} {W W':zw} {p:Nat} {mv:zp} {m:Nat} {mi:Nat->Nat} {v:Nat->zp} {l:Nat->List Int} {N:Nat} {o wk:List Nat} {mem:Nat->List Nat}
theorem dE.size(h:dE gt W p mv m mi v l N o wk mem):gt+1<=W.heap.size:=by have:=az h.box;have:=h.sM;omega
theorem dE.on(h:dE gt W p mv m mi v l N o wk mem)(hb:zx W.heap.size W W'):dE gt W' p mv m mi v l N o wk mem:=
 ⟨h.aq.below hb,h.two,aY h.box hb,h.sM,jy h.out hb,h.idx,h.l0,h.l1,h.lm⟩
theorem dE.row(h:dE gt W p mv m mi v l N o wk mem){i:Nat}(hi:i<N)(h2:2<=i)(hne:∀x,x<m->mi x≠i){u:zp}{ys:List Int}(hF:aS gt N W' (upd v i u) (bq l i ys))(hg:W.grownBy W' (v i).ownBlock):dE gt W' p mv m mi (upd v i u) (bq l i ys) N o wk mem:=by
 refine⟨hF,h.two,?_,h.sM,?_,h.idx,by rw[a8 _ _ (by omega)];exact h.l0,by rw[a8 _ _ (by omega)];exact h.l1,λx hx=>by rw[a8 _ _ (hne x hx)];exact h.lm x hx⟩
 ·rw[bW _ _ (by omega),bW _ _ (by omega)];exact h.aq.others hi hg (by decide) h.box
 ·rw[LZ (v':=v) (mi':=mi) (λx hx=>bW _ _ (hne x hx))];exact PO h.aq hi hg h.out
theorem dE.new(h:dE gt W p mv m mi v l N o wk mem):dE gt (W.alloc (zn #[] 3)) p mv m mi (upd v N (zi (zh ⟨W.heap.size,0,za⟩) 0 0)) (bq l N []) (N+1) o wk mem:=by
 have hb:zx W.heap.size W (W.alloc (zn #[] 3)):=aC;have h2:=h.two;refine⟨h.aq.new h.size,by omega,?_,h.sM,?_,λx hx=>⟨(h.idx x hx).1,by have:=(h.idx x hx).2;omega⟩,by rw[a8 _ _ (by omega)];exact h.l0,by rw[a8 _ _ (by omega)];exact h.l1,λx hx=>by rw[a8 _ _ (by have:=(h.idx x hx).2;omega)];exact h.lm x hx⟩
 ·rw[bW _ _ (by omega),bW _ _ (by omega)];exact aY h.box hb
 ·rw[LZ (v':=v) (mi':=mi) (λx hx=>bW _ _ (by have:=(h.idx x hx).2;omega))];exact jy h.out hb
theorem dE.label(h:dE gt W p mv m mi v l N o wk mem){o':List Nat}(hF:aS gt N W' v (bq l 0 (aO o')))(hg:W.grownBy W' (v 0).ownBlock):dE gt W' p mv m mi v (bq l 0 (aO o')) N o' wk mem:=by
 have h2:=h.two;refine⟨hF,h2,h.aq.others (i:=0) (by omega) hg (by decide) h.box,h.sM,PO h.aq (i:=0) (by omega) hg h.out,h.idx,ez _ _ _,by rw[a8 _ _ (by omega)];exact h.l1,λx hx=>by rw[a8 _ _ (by have:=(h.idx x hx).1;omega)];exact h.lm x hx⟩
theorem dE.zyk{g cap:Nat}(h:dE gt W p (zi (zh ⟨g,0,za⟩) m cap) m mi v l N o wk mem){b i:Nat}(hi:2<=i/\i<N){ys:List Nat}(hl:l i=aO ys):dE gt (W.setCell ⟨g,b,za⟩ (v i)) p (zi (zh ⟨g,0,za⟩) m cap) m (wX mi b i) v l N o wk (λx=>if x=b then ys else mem x):=by
 obtain⟨a9,hc⟩:=vw h.out;have kZ:=oK W g b (v i);refine⟨h.aq.other hc (by decide) kZ,h.two,?_,h.sM,?_,λx hx=>?_,h.l0,h.l1,λx hx=>?_⟩
 ·refine(kZ.block p (az h.box) (λe=>?_)).trans h.box;have e2:p=g:=Option.some.inj e;have hb:=h.box;rw[e2,hc]at hb;exact absurd (er hb) (by decide)
 ·have:=(h.out.stored b (v i)).1;rw[zsF]at this;exact this
 ·unfold wX
  by_cases e:x=b
  ·rw[ae e];exact hi
  ·rw[ab e];exact h.idx x hx
 ·unfold wX
  by_cases e:x=b
  ·rw[ae e,ae e];exact hl
  ·rw[ab e,ab e];exact h.lm x hx
theorem dE.members{g cap g' cap':Nat}(h:dE gt W p (zi (zh ⟨g,0,za⟩) m cap) m mi v l N o wk mem){i:Nat}(hi:2<=i/\i<N){ys:List Nat}(hl:l i=aO ys)(hg:W.grownBy W' (zh g))(ho:W'.ownsRow (gt+1) 23 1 (zi (zh ⟨g',0,za⟩) (m+1) cap') (m+1) (sJ v mi m++[v i])):
  W'.heap[p]?=zh (zn #[v 0,zi (zh ⟨g,0,za⟩) m cap,v 1] 66 (0,0))/\dE gt (W'.setCell ⟨p,1,za⟩ (zi (zh ⟨g',0,za⟩) (m+1) cap')) p (zi (zh ⟨g',0,za⟩) (m+1) cap') (m+1) (wX mi m i) v l N o wk (λx=>if x=m then ys else mem x):=by
 obtain⟨a9,hc⟩:=vw h.out;have bN:W'.heap[p]?=zh (zn #[v 0,zi (zh ⟨g,0,za⟩) m cap,v 1] 66 (0,0)):=by
  refine(hg.block p (az h.box) (λe=>?_)).trans h.box;have e2:p=g:=Option.some.inj e;have hb:=h.box;rw[e2,hc]at hb;exact absurd (er hb) (by decide)
 have hF':=h.aq.other hc (by decide) hg;have Fw:=oK W' p 1 (zi (zh ⟨g',0,za⟩) (m+1) cap');refine⟨bN,hF'.other bN (by decide) Fw,h.two,dx _ _ _ _ _ _ bN,h.sM,?_,λx hx=>?_,h.l0,h.l1,λx hx=>?_⟩
 ·rw[zq2,LZ (v':=v) (mi':=mi) (λx hx=>by unfold wX;rw[ab (by omega)])];have e:wX mi m i m=i:=by unfold wX;rw[ae rfl]
  rw[e];exact oI ho λb cs hb=>(Fw.block b (az hb) (λe=>by
   have e2:b=p:=Option.some.inj e;rw[e2,bN]at hb;exact absurd (er hb) (by decide))).trans hb
 ·unfold wX
  by_cases e:x=m
  ·rw[ae e];exact hi
  ·rw[ab e];exact h.idx x (by omega)
 ·unfold wX
  by_cases e:x=m
  ·rw[ae e,ae e];exact hl
  ·rw[ab e,ab e];exact h.lm x (by omega)
theorem dE.work(h:dE gt W p mv m mi v l N o wk mem){u:zp}{wk':List Nat}(hF:aS gt N W' (upd v 1 u) (bq l 1 (aO wk')))(hg:W.grownBy W' (v 1).ownBlock):
  W'.heap[p]?=zh (zn #[v 0,mv,v 1] 66 (0,0))/\dE gt (W'.setCell ⟨p,2,za⟩ u) p mv m mi (upd v 1 u) (bq l 1 (aO wk')) N o wk' mem:=by
 have h2:=h.two;have bN:=h.aq.others (i:=1) (by omega) hg (by decide) h.box;have Fw:=oK W' p 2 u;refine⟨bN,hF.other bN (by decide) Fw,h2,?_,h.sM,?_,h.idx,by rw[a8 _ _ (by omega)];exact h.l0,ez _ _ _,λx hx=>by rw[a8 _ _ (by have:=(h.idx x hx).1;omega)];exact h.lm x hx⟩
 ·rw[bW _ _ (by omega),fN];exact dx _ _ _ _ _ _ bN
 ·rw[LZ (v':=v) (mi':=mi) (λx hx=>bW _ _ (by have:=(h.idx x hx).1;omega))];exact oI (PO h.aq (i:=1) (by omega) hg h.out) λb cs hb=>(Fw.block b (az hb) (λe=>by
   have e2:b=p:=Option.some.inj e;rw[e2,bN]at hb;exact absurd (er hb) (by decide))).trans hb
end
end Go.Proofs.Ytfajjdgkiilhfaa
