import Derived.Test.YtfajjdgkiilhfaaGreatDoorC46
namespace Go.Proofs.YtfajjdgkiilhfaaGreatDoor
open Proofs.Tryz
open Option renaming none->za,some->zb
open Value renaming slice->zc,int->ze,agg->zk
open Obj renaming cells->zd
open RowKit renaming Hid->zg,Below->zh
open Go renaming Value->zi,World->zj,Calls->zm
set_option maxHeartbeats 8000000
set_option maxRecDepth 100000
open Go.RowKit
attribute [local go_sem ↓] wp_at_zero wp_at_succ
section
variable {w W W':zj}{D:Array zi}{gt p gT gC n:Nat}{T:Nat -> Nat}{width:Int}{v:Nat -> zi}{l:Nat -> List Int}
def sK(v:Nat->zi):Nat->zi:=λi=>if i<5 then v i else zc za 0 0
theorem zu3(v:Nat->zi)(i:Nat)(hi:i<5)(u:zi):sK (upd v i u)=upd (sK v) i u:=by
 funext j
 unfold sK upd
 by_cases e:j=i
 ·subst e;simp[hi]
 ·simp[e]
def uX(v:Nat->zi):Nat->zi:=λi=>v (5+i)
structure q9(w:zj)(D:Array zi)(gt p gT gC n:Nat)(T:Nat->Nat)(width:Int)(W:zj)(v:Nat->zi)(l:Nat->List Int):Prop where
 below:zh w.heap.size w W
 box:W.heap[w.heap.size]?=zb (zd D 25 (0,0))
 bw:W.heap[w.heap.size+1]?=zb (zd cO 28 (0,0))
 row:W.heap[gt]?=zb (zd (fR width (sK v)) 28 (0,0))
 lay:W.heap[p]?=zb (zd (sC gT (uX v)) 58 (0,0))
 words:W.heap[gT]?=zb (zd (qk 943 T) 107 (0,0))
 dO:W.heap[gC]?=zb (zd (qR n (λ_=>0)) 3 (0,0))
 au:aI (w.heap.size+1) 7 W v l
 far:∀i,i<7->∀b,(v i).ownBlock=zb b->b≠gt/\b≠p/\b≠gT/\b≠gC
 tl:∀i,T i<18446744073709551616
 o1:w.heap.size+1<gt
 o2:w.heap.size+1<p
 o3:w.heap.size+1<gT
 o4:w.heap.size+1<gC
 n1:gt≠p
 n2:gt≠gT
 n3:gt≠gC
 n4:p≠gT
 n5:p≠gC
 n6:gT≠gC
theorem q9.grow(h:q9 w D gt p gT gC n T width W v l)(hb:zh W.heap.size W W'):q9 w D gt p gT gC n T width W' v l:=
 {h with below:=aH h.below h.below.size hb,box:=aT h.box hb,bw:=aT h.bw hb,row:=aT h.row hb,lay:=aT h.lay hb,words:=aT h.words hb,dO:=aT h.dO hb,au:=h.au.below hb}
theorem q9.ly(h:q9 w D gt p gT gC n T width W v l):Ly (w.heap.size+1) p gT T (uX v) (uV (l 5) (l 6)) W:=
 ⟨h.o2,h.o3,h.n4,h.lay,h.words,⟨λi hi=>match i,hi with
  |0,_=>h.au.own 5 (by omega)
  |1,_=>h.au.own 6 (by omega),λi j hi hj hne b hb=>h.au.apart (5+i) (5+j) (by omega) (by omega) (by omega) b hb⟩,λi hi b hb=>⟨(h.far (5+i) (by omega) b hb).2.1,(h.far (5+i) (by omega) b hb).2.2.1⟩,h.tl⟩
def Fz(v v2:Nat->zi):Nat->zi:=λi=>if i<5 then v i else if i<7 then v2 (i-5) else v i
theorem q9.zCt{T':Nat->Nat}{v2:Nat->zi}{N C:List Int}(h:q9 w D gt p gT gC n T width W v l)(L:Ly (w.heap.size+1) p gT T' v2 (uV N C) W')(K:mI W p gT (uX v) v2 W'):
  q9 w D gt p gT gC n T' width W' (Fz v v2) (bG (bG l 5 N) 6 C):=by
 have hz:=h.below.size;have e5:∀i,i<5->Fz v v2 i=v i:=λi hi=>by simp[Fz,hi]
 have e6:∀i,i<2->Fz v v2 (5+i)=v2 i:=λi hi=>by
  have:5+i-5=i:=by omega
  have h1:5+i<7:=by omega
  have h2:¬5+i<5:=by omega
  unfold Fz;rw[ab h2,af h1,this]
 have lo5:∀i,i<2->∀k,(uX v i).ownBlock=zb k->w.heap.size+2<=k/\k<W.heap.size:=λi hi k hk=>dG (h.au.own (5+i) (by omega)) hk
 have keep:∀k,k<W.heap.size->k≠p->k≠gT->(∀i,i<2->(uX v i).ownBlock≠zb k)->W'.heap[k]?=W.heap[k]?:=K.rest;have low:∀k,k<=w.heap.size+1->W'.heap[k]?=W.heap[k]?:=λk hk=>keep k (by have:=ay h.bw;omega) (by have:=h.o2;omega) (by have:=h.o3;omega) λi hi hc=>by have:=lo5 i hi k hc;omega
 have gk:∀k o,W.heap[k]?=zb o->k≠p->k≠gT->(∀i,i<7->∀b,(v i).ownBlock=zb b->b≠k)->W'.heap[k]?=zb o:=λk o ho h1 h2 h3=>(keep k (ay ho) h1 h2 λi hi hc=>h3 (5+i) (by omega) k hc rfl).trans ho
 have old:∀i,i<5->∀b,(v i).ownBlock=zb b->W'.heap[b]?=W.heap[b]?:=λi hi b hb=>by
  have q:=h.far i (by omega) b hb;exact keep b (dG (h.au.own i (by omega)) hb).2 q.2.1 q.2.2.1 λj hj hc=>h.au.apart i (5+j) (by omega) (by omega) (by omega) b hb hc
 have new:∀i,i<2->∀b,(v2 i).ownBlock=zb b->(v (5+i)).ownBlock=zb b\/W.heap.size<=b:=K.new;have split:∀i,i<7->i<5\/∃j,j<2/\i=5+j:=λi hi=>by
  by_cases e:i<5
  ·exact .inl e
  ·exact .inr ⟨i-5,by omega,by omega⟩
 have lgt:=ay h.row;have lgC:=ay h.dO;have zxW:∀i j,i<5->j<2->∀b,(v i).ownBlock=zb b->(v2 j).ownBlock≠zb b:=λi j hi hj b hb hc=>by
  rcases new j hj b hc with q|q
  ·exact h.au.apart i (5+j) (by omega) (by omega) (by omega) b hb q
  ·have:=(dG (h.au.own i (by omega)) hb).2;omega
 refine⟨⟨K.os.trans h.below.os,K.tape.trans h.below.tape,K.output.trans h.below.output,cY hz K.size,λk hk=>(low k (by omega)).trans (h.below.block k hk)⟩,(low _ (by omega)).trans h.box,(low _ (by omega)).trans h.bw,?_,?_,L.words,?_,⟨λi hi=>?_,λi j hi hj hne b hb=>?_⟩,λi hi b hb=>?_,L.tl,h.o1,h.o2,h.o3,h.o4,h.n1,h.n2,h.n3,h.n4,h.n5,h.n6⟩
 ·have:sK (Fz v v2)=sK v:=by
   funext i
   unfold sK;split
   ·rename_i hi;exact e5 i hi
   ·rfl
  rw[this];exact gk gt _ h.row h.n1 h.n2 λi hi b hb=>(h.far i hi b hb).1
 ·have:sC gT (uX (Fz v v2))=sC gT v2:=by
   unfold sC uX;rw[e6 0 (by omega),e6 1 (by omega)]
  rw[this];exact L.box
 ·exact gk gC _ h.dO h.n5.symm h.n6.symm λi hi b hb=>(h.far i hi b hb).2.2.2
 ·rcases split i hi with e|⟨j,hj,rfl⟩
  ·rw[e5 i e,eO _ _ (by omega),eO _ _ (by omega)];exact nY (h.au.own i hi) (old i e)
  ·rw[e6 j hj]
   match j,hj with
   |0,_=>
    rw[eO _ _ (by omega),jj];exact L.au.own 0 (by omega)
   |1,_=>
    rw[jj];exact L.au.own 1 (by omega)
 ·rcases split i hi with e|⟨i',lJ,rfl⟩
  ·rw[e5 i e]at hb;rcases split j hj with f|⟨j',hj',rfl⟩
   ·rw[e5 j f];exact h.au.apart i j hi hj hne b hb
   ·rw[e6 j' hj'];exact zxW i j' e hj' b hb
  ·rw[e6 i' lJ]at hb;rcases split j hj with f|⟨j',hj',rfl⟩
   ·rw[e5 j f];exact λhc=>zxW j i' f lJ b hc hb
   ·rw[e6 j' hj'];exact L.au.apart i' j' lJ hj' (by omega) b hb
 ·rcases split i hi with e|⟨j,hj,rfl⟩
  ·rw[e5 i e]at hb;exact h.far i hi b hb
  ·rw[e6 j hj]at hb;have q:=L.far j hj b hb;rcases new j hj b hb with r|r
   ·have s:=h.far (5+j) (by omega) b r;exact⟨s.1,q.1,q.2,s.2.2.2⟩
   ·exact⟨by omega,q.1,q.2,by omega⟩
theorem zjz{ops:Array Oper}{rest:List Oper}{o:Oper}{a:Act}{Q:Exit->Act->zj->Prop}{nn:Nat}(S:q9 w D gt p gT gC nn T width W v l)(H:Nat)(hH:W.heap.size=H)(fQ:o.guard=za)(s x:Operand)
  (ho:o.op=.call {callee:=.builtin .append,args:=#[s,x],argTypes:=#[23,23]}) (i:Nat) (hi:i<5) (off:Nat) (qA:Ku i=off) (xs:List Int) (tR:l i=xs) (n:Nat) (hn:xs.length=n) (hs:a.eval s=v i) (y:Int) (hx:a.eval x=zc (zb ⟨H,0,za⟩) 1 1) (hl:n<=2000000)
  (h:∀g cap W',W'.heap[gt]?=zb (zd (fR width (sK v)) 28 (0,0))->q9 w D gt p gT gC nn T width (W'.setCell ⟨gt,off,za⟩ (zc (zb ⟨g,0,za⟩) (n+1) cap)) (upd v i (zc (zb ⟨g,0,za⟩) (n+1) cap)) (bG l i (xs++[y]))->wpList prog ops Q rest (a.put o.dst (zc (zb ⟨g,0,za⟩) (n+1) cap)) W'):
  wpList prog ops Q (o::rest) a (W.alloc (zd #[ze .i64 y] 3)):=by
 subst hH;subst hn;subst tR;subst qA;obtain⟨i0,eC,da,dt,cR⟩:=info_parts Tryz.pX;have hb:zh W.heap.size W (W.alloc (zd #[ze .i64 y] 3)):=ax;have S1:=S.grow hb;have own:(W.alloc (zd #[ze .i64 y] 3)).ownsRow (w.heap.size+1+1) 3 1 (v i) (l i).length ((l i).map eu):=S1.au.own i (by omega);have sw:=ay S.row;have ho1:=S.o1;refine wpList_append_lies _ fQ s x 23 ho (w.heap.size+1+1) 3 i0 _ 1 8 underlying23 eC da dt cR rfl (by omega) (v i) (l i).length ((l i).map eu) hs own ⟨W.heap.size,0,za⟩ 1 1 [ze .i64 y] hx rfl (zY (aJ _ _)) (by intro u hu;simp at hu;subst hu;rfl) (by omega) (by unfold maxLen;omega) (by omega) (by simp;omega) (W.heap.size+1) (by simp) ?_;intro g cap W' jG jD at' _;have uP:(W.alloc (zd #[ze .i64 y] 3)).heap.size=W.heap.size+1:=by simp
 have jb:(v i).ownBlock=zb g\/(W.alloc (zd #[ze .i64 y] 3)).heap.size<=g:=at'.imp id (λh=>by rw[uP];omega);generalize W.alloc (zd #[ze .i64 y] 3)=W1 at *;have MA:=aI.append S1.au (i:=i) (by omega) jG jD jb;have Jq:=S1.far;have kb:∀k ob,W1.heap[k]?=zb ob->(∀b,(v i).ownBlock=zb b->b≠k)->W'.heap[k]?=zb ob:=λk ob hk hne=>(jD.block k (ay hk) (λhc=>hne k hc.symm rfl)).trans hk
 have SB:∀b,(v i).ownBlock=zb b->w.heap.size+1+1<=b:=λb hb=>(dG (S1.au.own i (by omega)) hb).1
 have iK:w.heap.size+1+1<=g:=by
  rcases jb with q|q
  ·exact SB g q
  ·have:=ay S1.bw;omega
 have r2:=kb gt _ S1.row λb hb=>(Jq i (by omega) b hb).1
 have Cj:∀j,j<7->∀b,(upd v i (zc (zb ⟨g,0,za⟩) ((l i).length+1) cap) j).ownBlock=zb b->b≠gt/\b≠p/\b≠gT/\b≠gC:=λj hj b bW=>by
  by_cases e:j=i
  ·subst e;rw[kI]at bW;simp[Value.ownBlock]at bW;subst bW;rcases jb with q|q
   ·exact Jq j hj _ q
   ·have q1:=ay S1.row;have q2:=ay S1.lay;have q3:=ay S1.words;have q4:=ay S1.dO;omega
  ·rw[eF _ _ e]at bW;exact Jq j hj b bW
 refine h g cap W' r2 ⟨?_,?_,?_,?_,?_,?_,?_,⟨λj hj=>nY (MA.own j hj) λb bW=>bh _ _ _ _ (by simpa using (Cj j hj b bW).1),MA.apart⟩,Cj,S.tl,S.o1,S.o2,S.o3,S.o4,S.n1,S.n2,S.n3,S.n4,S.n5,S.n6⟩
 ·exact(S1.below.grown jD S1.below.size (by intro k hk;have:=SB k hk;omega)).setCell (by simp;omega) _
 ·rw[bh _ _ _ _ (by simp;omega)];exact kb _ _ S1.box λb hb=>by have:=SB b hb;omega
 ·rw[bh _ _ _ _ (by simp;omega)];exact kb _ _ S1.bw λb hb=>by have:=SB b hb;omega
 ·rw[zu3 v i hi,<-OP width (sK v) i (by omega)];exact cJ _ _ _ _ _ _ r2
 ·rw[bh _ _ _ _ (by simpa using S.n1.symm)];have:uX (upd v i (zc (zb ⟨g,0,za⟩) ((l i).length+1) cap))=uX v:=by
   funext j
   unfold uX;rw[eF _ _ (by omega)]
  rw[this];exact kb _ _ S1.lay λb hb=>(Jq i (by omega) b hb).2.1
 ·rw[bh _ _ _ _ (by simpa using S.n2.symm)];exact kb _ _ S1.words λb hb=>(Jq i (by omega) b hb).2.2.1
 ·rw[bh _ _ _ _ (by simpa using S.n3.symm)];exact kb _ _ S1.dO λb hb=>(Jq i (by omega) b hb).2.2.2
end
section
variable {w1 W w:zj}{b k gt ga gb gc pa pb pc p n gT gC:Nat}{B A C:List Int}{v:Nat -> zi}{D:Array zi}{width:Int}{l:Nat -> List Int}{T:Nat -> Nat}
theorem zlf{lo:Nat}(cv nv tv ev:zi)(d:aL)(w:zj)(hs:dP lo w cv nv tv ev d)(hsm:zS d)(hB:dH d=false):
  zm prog 6 #[zk #[cv,ze .i64 d.width,nv,tv,ev]] w λe w'=>yi w 0 1 (λ_=>[]) e w':=by
 have aD:zh w.heap.size w ((w.alloc (zd #[cv,ze .i64 d.width,nv,tv,ev] 25)).alloc (zd cO 28)):=(ax).alloc (by simp) _;have r0:((w.alloc (zd #[cv,ze .i64 d.width,nv,tv,ev] 25)).alloc (zd cO 28)).heap[w.heap.size+1]?=zb (zd cO 28 (0,0)):=by
  have:=aJ (w.alloc (zd #[cv,ze .i64 d.width,nv,tv,ev] 25)) (zd cO 28)
  simpa using this
 have hT:=zgt cv nv tv ev d _ (hs.below aD) hsm;rw[hB]at hT
 go_enter func6,ntmps6
 go_wp2_with fail
 refine hT.mono ?_;rintro e w1 ⟨rfl,aO⟩;have r1:=aT r0 aO;have aB:=aH aD aD.size aO;clear r0 aD aO hT;have fr:∀o,w1.frozen? ⟨w.heap.size+1,o,za⟩=false:=λ_=>aM _ _ _ _ _ r1
 unfold cO at r1;obtain⟨y0,y1,y2,y3,y4,y5,y6,y7⟩:=kH r1;clear r1;go_wp2;refine aW (v:=.tuple #[zk #[zc za 0 0,ze .i64 0,zc za 0 0,zc za 0 0,zc za 0 0,zc za 0 0,zc za 0 0,zc za 0 0],ze .i64 1]) (by simp[results,results6,go_sem,y0,y1,y2,y3,y4,y5,y6,y7]) rfl ?_;have h8:=A5 aB (show w.heap.size<=w.heap.size+1 by omega) (zc za 0 0) (ze .i64 0) (zc za 0 0) (zc za 0 0) (zc za 0 0) (zc za 0 0) (zc za 0 0) (zc za 0 0);exact⟨w.heap.size,λ_=>zc za 0 0,rfl,aq _,aI.nil _ _ _,h8⟩
theorem ZA(b o cap:Nat)(xs:List Int)(bF:b<w1.heap.size)(hc:∀i,i<xs.length->w1.cell? ⟨b,o+i,za⟩=zb (ze .i64 (xs.getD i 0)))(h0:0<xs.length)(h1:xs.length<=1048576)(wx:zj)(hb:zh w1.heap.size w1 wx):
  zm prog 24 #[zc (zb ⟨b,o,za⟩) xs.length cap] wx λe w'=>∃g cap,e=.returned (zc (zb ⟨g,0,za⟩) xs.length cap)/\bX wx.heap.size w' (zc (zb ⟨g,0,za⟩) xs.length cap) xs/\zh wx.heap.size wx w'/\zh w1.heap.size w1 w':=by
 refine(zsk (lo:=0) (zc (zb ⟨b,o,za⟩) xs.length cap) xs wx ⟨_,_,rfl,by omega,λ_=>⟨b,o,rfl,dz _,dR bF hb.size,λi hi=>(hb.cell (by exact bF)).trans (hc i hi)⟩⟩ h0 h1).mono ?_;rintro e w' ⟨g,cap,rfl,h1,h2⟩;exact⟨g,cap,rfl,h1,h2,aH hb hb.size h2⟩
structure tj(w:zj)(D:Array zi)(gt:Nat)(width:Int)(W:zj)(v:Nat->zi)(l:Nat->List Int):Prop where
 below:zh w.heap.size w W
 box:W.heap[w.heap.size]?=zb (zd D 25 (0,0))
 bw:W.heap[w.heap.size+1]?=zb (zd cO 28 (0,0))
 row:W.heap[gt]?=zb (zd (fR width (sK v)) 28 (0,0))
 au:aI (w.heap.size+1) 7 W v l
 far:∀i,i<7->∀b,(v i).ownBlock=zb b->b≠gt
 o1:w.heap.size+1<gt
 zCr:∀i,i<2->v (5+i)=zc za 0 0
def SR(a b c:zi):Nat->zi
 |0=>a
 |3=>b
 |4=>c
 |_=>zc za 0 0
theorem znp{a b c:zi}{i:Nat}(hi:i<7)(h:(SR a b c i).ownBlock=zb k):(i=0/\a.ownBlock=zb k)\/(i=3/\b.ownBlock=zb k)\/(i=4/\c.ownBlock=zb k):=by
 match i,hi with
 |0,_=>exact .inl ⟨rfl,h⟩
 |1,_=>cases h
 |2,_=>cases h
 |3,_=>exact .inr (.inl ⟨rfl,h⟩)
 |4,_=>exact .inr (.inr ⟨rfl,h⟩)
 |5,_=>cases h
 |6,_=>cases h
theorem K9{B B':Nat}{W':zj}{v:zi}{xs:List Int}(h:bX B W v xs)(hB:B'<=B)(hb:zh W.heap.size W W'):bX B' W' v xs:=by
 have h1:=nY (W':=W') h λb bW=>hb.block b (dG h bW).2
 exact⟨h1.1,h1.2.elim .inl λ⟨g,cap,aZ,hv,hg,r⟩=>.inr ⟨g,cap,aZ,hv,by omega,r⟩⟩
theorem tj.of(below:zh w.heap.size w W)(box:W.heap[w.heap.size]?=zb (zd D 25 (0,0)))(bw:W.heap[w.heap.size+1]?=zb (zd cO 28 (0,0)))
  (row:W.heap[gt]?=zb (zd #[zc (zb ⟨ga,0,za⟩) A.length pa,ze .i64 width,zc za 0 0,zc za 0 0,zc (zb ⟨gb,0,za⟩) B.length pb,zc (zb ⟨gc,0,za⟩) C.length pc,zc za 0 0,zc za 0 0] 28 (0,0))) (o1:w.heap.size+1<gt)
  (oa:bX (w.heap.size+1+1) W (zc (zb ⟨ga,0,za⟩) A.length pa) A) (ob:bX (w.heap.size+1+1) W (zc (zb ⟨gb,0,za⟩) B.length pb) B) (oc:bX (w.heap.size+1+1) W (zc (zb ⟨gc,0,za⟩) C.length pc) C)
  (h:ga≠gt/\gb≠gt/\gc≠gt/\ga≠gb/\ga≠gc/\gb≠gc):
  tj w D gt width W (SR (zc (zb ⟨ga,0,za⟩) A.length pa) (zc (zb ⟨gb,0,za⟩) B.length pb) (zc (zb ⟨gc,0,za⟩) C.length pc)) (bU A B C ⟨[],[],[],[]⟩ []):=by
 have nl:bX (w.heap.size+1+1) W (zc za 0 0) []:=(aI.nil (w.heap.size+1) 1 W).own 0 (by omega);have e:∀g n p k,(Value.slice (zb ⟨g,0,za⟩) n p).ownBlock=zb k->g=k:=λg n p k hk=>by
  simp[Value.ownBlock]at hk;exact hk
 refine⟨below,box,bw,row,⟨λi hi=>?_,λi j hi hj hne k hk hc=>?_⟩,λi hi k hk=>?_,o1,λi hi=>?_⟩
 ·match i,hi with
  |0,_=>exact oa
  |1,_=>exact nl
  |2,_=>exact nl
  |3,_=>exact ob
  |4,_=>exact oc
  |5,_=>exact nl
  |6,_=>exact nl
 ·rcases znp hi hk with ⟨rfl,q⟩|⟨rfl,q⟩|⟨rfl,q⟩<;>rcases znp hj hc with ⟨rfl,q'⟩|⟨rfl,q'⟩|⟨rfl,q'⟩<;>
   (have z:=e _ _ _ _ q;have z':=e _ _ _ _ q';omega)
 ·rcases znp hi hk with ⟨rfl,q⟩|⟨rfl,q⟩|⟨rfl,q⟩<;>(have z:=e _ _ _ _ q;omega)
 ·match i,hi with
  |0,_=>rfl
  |1,_=>rfl
theorem ztd{T:TypeId}(h:W.heap[b]?=zb (zd cO T (0,0)))(u0 u1 u2 u3 u4 u5 u6 u7:zi):(lR W b u0 u1 u2 u3 u4 u5 u6 u7).heap[b]?=zb (zd #[u0,u1,u2,u3,u4,u5,u6,u7] T (0,0)):=by
 have h0:(W.setCell ⟨b,0,za⟩ u0).heap[b]?=zb (zd #[u0,ze .i64 0,zc za 0 0,zc za 0 0,zc za 0 0,zc za 0 0,zc za 0 0,zc za 0 0] T (0,0)):=cJ _ _ 0 _ _ u0 h;have h1:((W.setCell ⟨b,0,za⟩ u0).setCell ⟨b,1,za⟩ u1).heap[b]?=zb (zd #[u0,u1,zc za 0 0,zc za 0 0,zc za 0 0,zc za 0 0,zc za 0 0,zc za 0 0] T (0,0)):=cJ _ _ 1 _ _ u1 h0;have h2:(((W.setCell ⟨b,0,za⟩ u0).setCell ⟨b,1,za⟩ u1).setCell ⟨b,2,za⟩ u2).heap[b]?=zb (zd #[u0,u1,u2,zc za 0 0,zc za 0 0,zc za 0 0,zc za 0 0,zc za 0 0] T (0,0)):=cJ _ _ 2 _ _ u2 h1;have h3:((((W.setCell ⟨b,0,za⟩ u0).setCell ⟨b,1,za⟩ u1).setCell ⟨b,2,za⟩ u2).setCell ⟨b,3,za⟩ u3).heap[b]?=zb (zd #[u0,u1,u2,u3,zc za 0 0,zc za 0 0,zc za 0 0,zc za 0 0] T (0,0)):=cJ _ _ 3 _ _ u3 h2;have h4:(((((W.setCell ⟨b,0,za⟩ u0).setCell ⟨b,1,za⟩ u1).setCell ⟨b,2,za⟩ u2).setCell ⟨b,3,za⟩ u3).setCell ⟨b,4,za⟩ u4).heap[b]?=zb (zd #[u0,u1,u2,u3,u4,zc za 0 0,zc za 0 0,zc za 0 0] T (0,0)):=cJ _ _ 4 _ _ u4 h3;have h5:((((((W.setCell ⟨b,0,za⟩ u0).setCell ⟨b,1,za⟩ u1).setCell ⟨b,2,za⟩ u2).setCell ⟨b,3,za⟩ u3).setCell ⟨b,4,za⟩ u4).setCell ⟨b,5,za⟩ u5).heap[b]?=zb (zd #[u0,u1,u2,u3,u4,u5,zc za 0 0,zc za 0 0] T (0,0)):=cJ _ _ 5 _ _ u5 h4;have h6:(((((((W.setCell ⟨b,0,za⟩ u0).setCell ⟨b,1,za⟩ u1).setCell ⟨b,2,za⟩ u2).setCell ⟨b,3,za⟩ u3).setCell ⟨b,4,za⟩ u4).setCell ⟨b,5,za⟩ u5).setCell ⟨b,6,za⟩ u6).heap[b]?=zb (zd #[u0,u1,u2,u3,u4,u5,u6,zc za 0 0] T (0,0)):=cJ _ _ 6 _ _ u6 h5;have h7:((((((((W.setCell ⟨b,0,za⟩ u0).setCell ⟨b,1,za⟩ u1).setCell ⟨b,2,za⟩ u2).setCell ⟨b,3,za⟩ u3).setCell ⟨b,4,za⟩ u4).setCell ⟨b,5,za⟩ u5).setCell ⟨b,6,za⟩ u6).setCell ⟨b,7,za⟩ u7).heap[b]?=zb (zd #[u0,u1,u2,u3,u4,u5,u6,u7] T (0,0)):=cJ _ _ 7 _ _ u7 h6;exact h7
theorem OL(h:k≠b)(u0 u1 u2 u3 u4 u5 u6 u7:zi):(lR W b u0 u1 u2 u3 u4 u5 u6 u7).heap[k]?=W.heap[k]?:=by
 unfold lR;rw[bh _ _ _ _ (by simpa using h),bh _ _ _ _ (by simpa using h),bh _ _ _ _ (by simpa using h),bh _ _ _ _ (by simpa using h),bh _ _ _ _ (by simpa using h),bh _ _ _ _ (by simpa using h),bh _ _ _ _ (by simpa using h),bh _ _ _ _ (by simpa using h)]
theorem tj.store(below:zh w.heap.size w W)(box:W.heap[w.heap.size]?=zb (zd D 25 (0,0)))(bw:W.heap[w.heap.size+1]?=zb (zd cO 28 (0,0)))
  (row:W.heap[gt]?=zb (zd cO 28 (0,0))) (o1:w.heap.size+1<gt)
  (oa:bX (w.heap.size+1+1) W (zc (zb ⟨ga,0,za⟩) A.length pa) A) (ob:bX (w.heap.size+1+1) W (zc (zb ⟨gb,0,za⟩) B.length pb) B) (oc:bX (w.heap.size+1+1) W (zc (zb ⟨gc,0,za⟩) C.length pc) C)
  (h:ga≠gt/\gb≠gt/\gc≠gt/\ga≠gb/\ga≠gc/\gb≠gc):
  tj w D gt width (lR W gt (zc (zb ⟨ga,0,za⟩) A.length pa) (ze .i64 width) (zc za 0 0) (zc za 0 0) (zc (zb ⟨gb,0,za⟩) B.length pb) (zc (zb ⟨gc,0,za⟩) C.length pc) (zc za 0 0) (zc za 0 0)) (SR (zc (zb ⟨ga,0,za⟩) A.length pa) (zc (zb ⟨gb,0,za⟩) B.length pb) (zc (zb ⟨gc,0,za⟩) C.length pc)) (bU A B C ⟨[],[],[],[]⟩ []):=by
 have e:∀g n p k,(Value.slice (zb ⟨g,0,za⟩) n p).ownBlock=zb k->k=g:=λg n p k hk=>by
  simp[Value.ownBlock]at hk;exact hk.symm
 refine tj.of (A5 below (by omega) _ _ _ _ _ _ _ _) ((OL (by omega) _ _ _ _ _ _ _ _).trans box) ((OL (by omega) _ _ _ _ _ _ _ _).trans bw) (ztd row _ _ _ _ _ _ _ _) o1 (nY oa λb hb=>OL ?_ _ _ _ _ _ _ _ _) (nY ob λb hb=>OL ?_ _ _ _ _ _ _ _ _) (nY oc λb hb=>OL ?_ _ _ _ _ _ _ _ _) h<;>
  (have:=e _ _ _ _ hb;omega)
theorem tj.start{W2 W3:zj}(P:tj w D gt width W v l)(hp:W.heap.size<p)(hT:W2.heap[W.heap.size]?=zb (zd (qk 943 (λ_=>0)) 107 (0,0)))(hL:W2.heap[p]?=zb (zd (sC W.heap.size (λ_=>zc za 0 0)) 58 (0,0)))(aB:zh W.heap.size W W2)
  (hC:W3.heap[W2.heap.size]?=zb (zd (qR n (λ_=>0)) 3 (0,0))) (fD:zh W2.heap.size W2 W3):q9 w D gt p W.heap.size W2.heap.size n (λ_=>0) width W3 v l:=by
 have hb:zh W.heap.size W W3:=aH aB aB.size fD;have lp:=ay hL;have lg:=ay P.row;have lr:=ay P.bw;have z2:=aB.size;have o1:=P.o1;have e:uX v=λi=>if i<2 then zc za 0 0 else v (5+i):=by
  funext i
  unfold uX;split
  ·rename_i hi;exact P.zCr i hi
  ·rfl
 have QY:sC W.heap.size (uX v)=sC W.heap.size (λ_=>zc za 0 0):=by
  unfold sC;rw[e]
  rfl
 refine⟨aH P.below P.below.size hb,aT P.box hb,aT P.bw hb,aT P.row hb,by rw[QY];exact aT hL fD,aT hT fD,hC,P.au.below hb,λi hi b bW=>?_,λ_=>by decide,o1,by omega,by omega,by omega,by omega,by omega,by omega,by omega,by omega,by omega⟩;have q:=(dG (P.au.own i hi) bW).2;exact⟨P.far i hi b bW,by omega,by omega,by omega⟩
theorem zra{c t f:List Int}{L:pI}(S:q9 w D gt p gT gC n T width W v (bU c t f L []))(nx:List Int)(wd k b o A0:Nat)(bF:b<w.heap.size)
  (Hc:zg (∀j,j<wd->w.cell? ⟨b,o+j,za⟩=zb (ze .i64 ((a8 nx wd k).getD j 0)))) (sw:(a8 nx wd k).length=wd) (hwd:wd<=256) (mE:zg (L.next.length=L.az.length/\L.az.length<=60000)) (GC:zg (∀q,oQ T q=!im L.az q)) (uF:zg (Dg w)) (h0:0<w.heap.size) (HL:zg (mW nx wd k=zb L)):
  zm prog 27 #[.pointer (zb ⟨p,0,za⟩),ze .i64 k,zc (zb ⟨b,o,za⟩) wd A0,ze .i64 (dW (a8 nx wd k))] W λe w'=>
   (e=.returned (.tuple #[ze .i64 0,.bool false])/\zg (mW nx wd (k+1)=za)/\q9 w D gt p gT gC n T width w' v (bU c t f L []))\/
   (∃(kk:Nat) (N' C':List Int) (T2:Nat->Nat) (v2:Nat->zi),e=.returned (.tuple #[ze .i64 kk,.bool true])/\zg (mW nx wd (k+1)=zb ⟨L.base++[(kk:Int)],L.bA++[dW (a8 nx wd k)],N',C'⟩)/\q9 w D gt p gT gC n T2 width w' v2 (bU c t f ⟨L.base,L.bA,N',C'⟩ [])/\zg (N'.length=C'.length/\C'.length<=60000)/\zg (∀q,oQ T2 q=!im C' q)):=by
 have hz:=S.below.size;have cP:=zs3 (w.heap.size+1) p gT T (uX v) L.next L.az k b o A0 (a8 nx wd k) (dW (a8 nx wd k)) W S.ly (by omega) (by omega) (λj hj=>(S.below.cell (by exact bF)).trans (Hc.out j (by omega))) (by omega) mE.out.2 mE.out.1 GC (λi hi=>(S.below.cell (by exact h0)).trans (uF.out i hi));have HF:mW nx wd (k+1)=AY nx wd k L:=by show (mW nx wd k).bind _=_;rw[HL.out];rfl
 have xf:AY nx wd k L=if aK (a8 nx wd k) (dW (a8 nx wd k)) wd=[] then zb ⟨L.base++[0],L.bA++[dW (a8 nx wd k)],L.next,L.az⟩ else if (aK (a8 nx wd k) (dW (a8 nx wd k)) wd).all (λc=>decide (oz L.az (aK (a8 nx wd k) (dW (a8 nx wd k)) wd)+c<60000)) then zb ⟨L.base++[(oz L.az (aK (a8 nx wd k) (dW (a8 nx wd k)) wd):Int)],L.bA++[dW (a8 nx wd k)],di 0 L.next (oz L.az (aK (a8 nx wd k) (dW (a8 nx wd k)) wd)) (λc=>(a8 nx wd k).getD c 0) (aK (a8 nx wd k) (dW (a8 nx wd k)) wd),di (-1) L.az (oz L.az (aK (a8 nx wd k) (dW (a8 nx wd k)) wd)) (λ_=>(k:Int)) (aK (a8 nx wd k) (dW (a8 nx wd k)) wd)⟩ else za:=rfl
 unfold zve at cP;generalize dW (a8 nx wd k)=dv at *;generalize a8 nx wd k=row at *;rw[sw]at cP;refine cP.mono ?_;rintro e w' (⟨zE,rfl,hb⟩|⟨zE,kk,hk,⟨bm,rfl,hb⟩|⟨bm,rfl,T',v',L',K',vS⟩⟩)
 ·refine .inr ⟨0,L.next,L.az,T,v,rfl,?_,S.grow hb,mE,GC⟩;show _=_;rw[HF,xf,af zE]
  rfl
 ·refine .inl ⟨rfl,?_,S.grow hb⟩;show _=_;rw[HF,xf,ab zE,hk,bm]
  rfl
 ·refine .inr ⟨kk,di 0 L.next kk (λc=>row.getD c 0) (aK row dv wd),di (-1) L.az kk (λ_=>(k:Int)) (aK row dv wd),T',Fz v v',rfl,?_,?_,⟨OE _ _ _ _ _ _ _ _ mE.out.1,Iq _ _ _ _ _ _ mE.out.2 ?_⟩,vS⟩
  ·show _=_;rw[HF,xf,ab zE,hk,bm]
   rfl
  ·have h:=S.zCt L' K';rw[zka,zkb]at h;exact h
  ·intro c hc;rw[jR]at bm
   simpa using bm c hc
structure Jb(w:zj)(gt:Nat)(width:Int)(W:zj)(v:Nat->zi)(l:Nat->List Int):Prop where
 below:zh w.heap.size w W
 bw:W.heap[w.heap.size+1]?=zb (zd cO 28 (0,0))
 row:W.heap[gt]?=zb (zd (fR width v) 28 (0,0))
 au:aI (w.heap.size+1) 7 W v l
 o1:w.heap.size+1<gt
theorem Jb.drew(h:Jb w gt width W v l):Jb w gt width W.drew v l:=
 have hb:zh W.heap.size W W.drew:=(Below.refl _ _).drew
 ⟨aH h.below h.below.size hb,aT h.bw hb,aT h.row hb,h.au.below hb,h.o1⟩
theorem q9.done(h:q9 w D gt p gT gC n T width W v l):Jb w gt width ((W.setCell ⟨gt,6,za⟩ (v 5)).setCell ⟨gt,7,za⟩ (v 6)) v l:=by
 have o1:=h.o1;have h6:=cJ _ _ 6 _ _ (v 5) h.row;have h7:=cJ _ _ 7 _ _ (v 6) h6;have e1:(fR width (sK v)).setIfInBounds 6 (v 5)=fR width (upd (sK v) 5 (v 5)):=OP width (sK v) 5 (by omega) (v 5);have e2:(fR width (upd (sK v) 5 (v 5))).setIfInBounds 7 (v 6)=fR width (upd (upd (sK v) 5 (v 5)) 6 (v 6)):=OP width _ 6 (by omega) (v 6);have e3:fR width (upd (upd (sK v) 5 (v 5)) 6 (v 6))=fR width v:=rfl;rw[e1,e2,e3]at h7;refine⟨(h.below.setCell (by simp;omega) _).setCell (by simp;omega) _,?_,h7,⟨λi hi=>nY (h.au.own i hi) λb hb=>?_,h.au.apart⟩,o1⟩
 ·rw[bh _ _ _ _ (by simp;omega),bh _ _ _ _ (by simp;omega)];exact h.bw
 ·have:=(h.far i hi b hb).1;rw[bh _ _ _ _ (by simpa using this),bh _ _ _ _ (by simpa using this)]
theorem tj.fresh(below:zh w.heap.size w W)(box:W.heap[w.heap.size]?=zb (zd D 25 (0,0)))(bw:W.heap[w.heap.size+1]?=zb (zd cO 28 (0,0)))
  (oa:bX (w.heap.size+1+1) W (zc (zb ⟨ga,0,za⟩) A.length pa) A) (ob:bX (w.heap.size+1+1) W (zc (zb ⟨gb,0,za⟩) B.length pb) B) (oc:bX (w.heap.size+1+1) W (zc (zb ⟨gc,0,za⟩) C.length pc) C)
  (h:ga≠gb/\ga≠gc/\gb≠gc):
  tj w D W.heap.size width (W.alloc (zd #[zc (zb ⟨ga,0,za⟩) A.length pa,ze .i64 width,zc za 0 0,zc za 0 0,zc (zb ⟨gb,0,za⟩) B.length pb,zc (zb ⟨gc,0,za⟩) C.length pc,zc za 0 0,zc za 0 0] 28)) (SR (zc (zb ⟨ga,0,za⟩) A.length pa) (zc (zb ⟨gb,0,za⟩) B.length pb) (zc (zb ⟨gc,0,za⟩) C.length pc)) (bU A B C ⟨[],[],[],[]⟩ []):=by
 have la:=(dG oa (b:=ga) (by simp[Value.ownBlock])).2;have lb:=(dG ob (b:=gb) (by simp[Value.ownBlock])).2;have lc:=(dG oc (b:=gc) (by simp[Value.ownBlock])).2;have lr:=ay bw;have hb:zh W.heap.size W (W.alloc (zd #[zc (zb ⟨ga,0,za⟩) A.length pa,ze .i64 width,zc za 0 0,zc za 0 0,zc (zb ⟨gb,0,za⟩) B.length pb,zc (zb ⟨gc,0,za⟩) C.length pc,zc za 0 0,zc za 0 0] 28)):=ax;exact tj.of (aH below below.size hb) (aT box hb) (aT bw hb) (aJ _ _) lr (K9 oa (aq _) hb) (K9 ob (aq _) hb) (K9 oc (aq _) hb) ⟨by omega,by omega,by omega,h.1,h.2.1,h.2.2⟩
theorem Tc{x1 wa x2 wb x3 wc:zj}{n1 n2 n3:Nat}(aB:zh w.heap.size w w1)(q1:w1.heap[w.heap.size]?=zb (zd D 25 (0,0)))(r1:w1.heap[w.heap.size+1]?=zb (zd cO 28 (0,0)))
  (h1:zh w1.heap.size w1 x1) (OA:bX x1.heap.size wa (zc (zb ⟨ga,0,za⟩) A.length pa) A) (Ba:zh x1.heap.size x1 wa) (h2:zh wa.heap.size wa x2) (OB:bX x2.heap.size wb (zc (zb ⟨gb,0,za⟩) B.length pb) B) (Bb:zh x2.heap.size x2 wb) (h3:zh wb.heap.size wb x3) (OC:bX x3.heap.size wc (zc (zb ⟨gc,0,za⟩) C.length pc) C) (Bc:zh x3.heap.size x3 wc)
  (e1:x1.heap.size=n1) (e2:x2.heap.size=n2) (e3:x3.heap.size=n3):
  (zh w.heap.size w wc/\wc.heap[w.heap.size]?=zb (zd D 25 (0,0))/\wc.heap[w.heap.size+1]?=zb (zd cO 28 (0,0)))/\(bX (w.heap.size+1+1) wc (zc (zb ⟨ga,0,za⟩) A.length pa) A/\bX (w.heap.size+1+1) wc (zc (zb ⟨gb,0,za⟩) B.length pb) B/\bX (w.heap.size+1+1) wc (zc (zb ⟨gc,0,za⟩) C.length pc) C)/\
  (w.heap.size+1<w1.heap.size/\w1.heap.size<=n1/\n1<=ga/\ga<wa.heap.size/\wa.heap.size<=n2/\n2<=gb/\gb<wb.heap.size/\wb.heap.size<=n3/\n3<=gc/\gc<wc.heap.size):=by
 have la:=dG OA (b:=ga) (by simp[Value.ownBlock]);have lb:=dG OB (b:=gb) (by simp[Value.ownBlock]);have lc:=dG OC (b:=gc) (by simp[Value.ownBlock]);have lr:=ay r1;have z1:=h1.size;have z2:=h2.size;have z3:=h3.size;have k1:=aH h1 h1.size Ba;have k2:=aH h2 h2.size Bb;have k3:=aH h3 h3.size Bc;have k12:zh w1.heap.size w1 wb:=aH k1 k1.size k2;have YZ:zh w1.heap.size w1 wc:=aH k12 k12.size k3;have k23:zh wa.heap.size wa wc:=aH k2 k2.size k3;exact⟨⟨aH aB aB.size YZ,aT q1 YZ,aT r1 YZ⟩,⟨K9 OA (by omega) k23,K9 OB (by omega) k3,K9 OC (by omega) (Below.refl _ _)⟩,by omega⟩
end
theorem zoW{lo:Nat}(cv nv tv ev:zi)(d:aL)(wd:Nat)(w:zj)(hs:dP lo w cv nv tv ev d)(hsm:zS d)(hwd:d.width=wd)(iz:∃ao cap,nv=.slice ao d.next.length cap/\d.next.length<=cap)(hB:dH d=true)(uF:zg (Dg w)):
  zm prog 6 #[zk #[cv,ze .i64 d.width,nv,tv,ev]] w λe w'=>yi w (yv d) (jO d) (wK d) e w':=by
 have hf:=C6 hB;have DK:zg (d.width=wd):=hwd;have aD:zh w.heap.size w ((w.alloc (zd #[cv,ze .i64 d.width,nv,tv,ev] 25)).alloc (zd cO 28)):=(ax).alloc (by simp) _;have r0:((w.alloc (zd #[cv,ze .i64 d.width,nv,tv,ev] 25)).alloc (zd cO 28)).heap[w.heap.size+1]?=zb (zd cO 28 (0,0)):=by
  have:=aJ (w.alloc (zd #[cv,ze .i64 d.width,nv,tv,ev] 25)) (zd cO 28)
  simpa using this
 have q0:((w.alloc (zd #[cv,ze .i64 d.width,nv,tv,ev] 25)).alloc (zd cO 28)).heap[w.heap.size]?=zb (zd #[cv,ze .i64 d.width,nv,tv,ev] 25 (0,0)):=qK (aJ _ _);have hT:=zgt cv nv tv ev d _ (hs.below aD) hsm;rw[hB]at hT;have j7:=hf.n1;have kA:=hf.n2;have xU:=hf.w1;have kY:=hf.w2;rw[hwd]at xU kY hT q0 r0 aD ⊢;have pO:0<d.ai.length/\d.ai.length<=256:=by have:=hf.cl;omega
 have r9:0<d.fin.length/\d.fin.length<=4000:=by have:=hf.fl;omega
 have tQ:0<d.tag.length:=by omega
 have GW:d.next.length=d.tag.length*wd:=by
  have:=hf.nl;rw[hwd]at this;exact Int.ofNat.inj this
 have iw:0<d.next.length:=by rw[GW];exact Nat.mul_pos tQ (by omega)
 have Mb:zg (d.next.length=d.tag.length*wd):=GW;have Hns:zg (cd 0 (d.tag.length-1) d.next=true):=hf.ns;clear GW hwd;obtain⟨⟨a0,p0,rfl,m0,y0⟩,⟨na,np,rfl,nm,ny⟩,⟨ta,tp,rfl,tm,ty⟩,⟨ea,ep,rfl,em,ey⟩⟩:=hs;obtain⟨na',np',he,iz⟩:=iz;cases he;obtain⟨cb,co,rfl,_,cl,cq⟩:=y0 pO.1;obtain⟨nb,no,rfl,_,nl,nq⟩:=ny iw;obtain⟨tb,tq,rfl,_,tl,Ol⟩:=ty tQ;obtain⟨eb,eq,rfl,_,el,Mz⟩:=ey r9.1;have Cq:zg (∀i,i<d.ai.length->w.cell? ⟨cb,co+i,za⟩=zb (ze .i64 (d.ai.getD i 0))):=cq;have Nq:zg (∀i,i<d.next.length->w.cell? ⟨nb,no+i,za⟩=zb (ze .i64 (d.next.getD i 0))):=nq;have Tq:zg (∀i,i<d.tag.length->w.cell? ⟨tb,tq+i,za⟩=zb (ze .i64 (d.tag.getD i 0))):=Ol;have Eq:zg (∀i,i<d.fin.length->w.cell? ⟨eb,eq+i,za⟩=zb (ze .i64 (d.fin.getD i 0))):=Mz;clear cq Ol Mz nq y0 ty ey ny iw
 go_enter func6,ntmps6
 go_wp2_with fail
 refine hT.mono ?_;rintro e w1 ⟨rfl,aO⟩;have r1:=aT r0 aO;have q1:=aT q0 aO;have aB:=aH aD aD.size aO;clear r0 aD aO hT q0;have uP:w.heap.size+1<w1.heap.size:=ay r1;have Jm:=ZA cb co p0 d.ai (dR cl aB.size) (λi hi=>(aB.cell (by exact cl)).trans (Cq.out i hi)) pO.1 (by omega);have Jo:=ZA tb tq tp d.tag (dR tl aB.size) (λi hi=>(aB.cell (by exact tl)).trans (Tq.out i hi)) tQ (by omega);have Jn:=ZA eb eq ep d.fin (dR el aB.size) (λi hi=>(aB.cell (by exact el)).trans (Eq.out i hi)) r9.1 (by omega);have HH:zg (∀wx,zh w1.heap.size w1 wx->wx.cell? ⟨w.heap.size,0,za⟩=zb (zc (zb ⟨cb,co,za⟩) d.ai.length p0)/\wx.cell? ⟨w.heap.size,1,za⟩=zb (ze .i64 wd)/\wx.cell? ⟨w.heap.size,3,za⟩=zb (zc (zb ⟨tb,tq,za⟩) d.tag.length tp)/\wx.cell? ⟨w.heap.size,4,za⟩=zb (zc (zb ⟨eb,eq,za⟩) d.fin.length ep)):=λwx hb=>by
  obtain⟨x0,x1,x2,x3,x4⟩:=dM q1;exact⟨(hb.cell (by simp;omega)).trans x0,(hb.cell (by simp;omega)).trans x1,(hb.cell (by simp;omega)).trans x3,(hb.cell (by simp;omega)).trans x4⟩
 have HS:zg (∀(wx:zj) (g:Nat) (u0 u1 u2 u3 u4 u5 u6 u7:zi),w1.heap.size<=g->zh w1.heap.size w1 wx->((((((((wx.setCell ⟨g,0,za⟩ u0).setCell ⟨g,1,za⟩ u1).setCell ⟨g,2,za⟩ u2).setCell ⟨g,3,za⟩ u3).setCell ⟨g,4,za⟩ u4).setCell ⟨g,5,za⟩ u5).setCell ⟨g,6,za⟩ u6).setCell ⟨g,7,za⟩ u7).cell? ⟨w.heap.size,0,za⟩=zb (zc (zb ⟨cb,co,za⟩) d.ai.length p0)/\((((((((wx.setCell ⟨g,0,za⟩ u0).setCell ⟨g,1,za⟩ u1).setCell ⟨g,2,za⟩ u2).setCell ⟨g,3,za⟩ u3).setCell ⟨g,4,za⟩ u4).setCell ⟨g,5,za⟩ u5).setCell ⟨g,6,za⟩ u6).setCell ⟨g,7,za⟩ u7).cell? ⟨w.heap.size,1,za⟩=zb (ze .i64 wd)/\((((((((wx.setCell ⟨g,0,za⟩ u0).setCell ⟨g,1,za⟩ u1).setCell ⟨g,2,za⟩ u2).setCell ⟨g,3,za⟩ u3).setCell ⟨g,4,za⟩ u4).setCell ⟨g,5,za⟩ u5).setCell ⟨g,6,za⟩ u6).setCell ⟨g,7,za⟩ u7).cell? ⟨w.heap.size,3,za⟩=zb (zc (zb ⟨tb,tq,za⟩) d.tag.length tp)/\((((((((wx.setCell ⟨g,0,za⟩ u0).setCell ⟨g,1,za⟩ u1).setCell ⟨g,2,za⟩ u2).setCell ⟨g,3,za⟩ u3).setCell ⟨g,4,za⟩ u4).setCell ⟨g,5,za⟩ u5).setCell ⟨g,6,za⟩ u6).setCell ⟨g,7,za⟩ u7).cell? ⟨w.heap.size,4,za⟩=zb (zc (zb ⟨eb,eq,za⟩) d.fin.length ep)):=λwx g u0 u1 u2 u3 u4 u5 u6 u7 hg hb=>HH.out _ (A5 hb hg u0 u1 u2 u3 u4 u5 u6 u7)
 go_upto_region 3 with fail
 go_cut [4] from 16 to 27 (λtv wx=>∃(gt:Nat) (v:Nat->zi),tv=.pointer (zb ⟨gt,0,za⟩)/\tj w #[zc (zb ⟨cb,co,za⟩) d.ai.length p0,ze .i64 wd,zc (zb ⟨nb,no,za⟩) d.next.length np,zc (zb ⟨tb,tq,za⟩) d.tag.length tp,zc (zb ⟨eb,eq,za⟩) d.fin.length ep] gt wd wx v (bU d.ai d.tag d.fin ⟨[],[],[],[]⟩ []))
 case first=>
  go_region_held3 (λwx=>wx.cell? ⟨w.heap.size,0,za⟩=zb (zc (zb ⟨cb,co,za⟩) d.ai.length p0)/\wx.cell? ⟨w.heap.size,1,za⟩=zb (ze .i64 wd)/\wx.cell? ⟨w.heap.size,3,za⟩=zb (zc (zb ⟨tb,tq,za⟩) d.tag.length tp)/\wx.cell? ⟨w.heap.size,4,za⟩=zb (zc (zb ⟨eb,eq,za⟩) d.fin.length ep)) ((first|((with_reducible refine HS.out _ _ _ _ _ _ _ _ _ _ ?_ (by first|exact BC|exact BC.alloc BC.size _));first|exact aq _|exact BA.size|exact BB.size|exact BC.size)|with_reducible exact HH.out _ (Below.refl _ _)|with_reducible exact HH.out _ (Below.refl _ _).drew|with_reducible exact HH.out _ (ax)|with_reducible exact HH.out _ ((Below.refl _ _).drew.alloc (aq _) _)|with_reducible exact HH.out _ (ax).drew|with_reducible exact HH.out _ BA|with_reducible exact HH.out _ (BA.alloc BA.size _)|with_reducible exact HH.out _ BB|with_reducible exact HH.out _ (BB.alloc BB.size _)|with_reducible exact HH.out _ BC|with_reducible exact HH.out _ (BC.alloc BC.size _)|fail)) ((first|(go_at_call 24;(with_reducible refine(Jn _ (by first|exact BB|exact BB.alloc BB.size _)).mono ?_);rintro e wc ⟨gc,pc,rfl,OC,Bc,BC⟩;(first|((with_reducible have zr:=aT (aJ _ _) Bc);(have zf:∀o,wc.frozen? ⟨_,o,za⟩=false:=λ_=>aM _ _ _ _ _ zr);(obtain⟨z0,z1,z2,z3,z4,z5,z6,z7⟩:=kH zr))|((with_reducible have zr:=aT zz Bc);(have zf:∀o,wc.frozen? ⟨_,o,za⟩=false:=λ_=>aM _ _ _ _ _ zr);(obtain⟨z0,z1,z2,z3,z4,z5,z6,z7⟩:=kH zr))|skip))|(go_at_call 24;(with_reducible refine(Jo _ (by first|exact BA|exact BA.alloc BA.size _)).mono ?_);rintro e wb ⟨gb,pb,rfl,OB,Bb,BB⟩;(first|(with_reducible have zz:=aT (aJ _ _) Bb)|(with_reducible have zz:=aT zy Bb)|skip))|(go_at_call 24;(with_reducible refine(Jm _ (by first|exact(Below.refl _ _).drew|exact(Below.refl _ _)|exact ax|exact(Below.refl _ _).drew.alloc (aq _) _|exact(ax).drew)).mono ?_);rintro e wa ⟨ga,pa,rfl,OA,Ba,BA⟩;(first|(with_reducible have zy:=aT (aJ _ _) Ba)|(with_reducible have zy:=aT (aT (aJ _ _) (Below.refl _ _).drew) Ba)|skip))))
  ·obtain⟨⟨t1,t2,t3⟩,⟨u1,u2,u3⟩,hn⟩:=Tc aB q1 r1 (Below.refl _ _).drew OA Ba (Below.refl _ _) OB Bb (Below.refl _ _) OC Bc rfl rfl rfl;have hP:=tj.fresh (width:=wd) t1 t2 t3 u1 u2 u3 (by omega);clear t1 t2 t3 u1 u2 u3 hn Jm Jo Jn HH HS r1 q1 aB OA OB OC Ba Bb Bc BA BB BC;have HP:zg _:=hP;clear hP
   go_wp2_with fail
   go_meet
   exact⟨_,_,rfl,HP.out⟩
  ·obtain⟨⟨t1,t2,t3⟩,⟨u1,u2,u3⟩,hn⟩:=Tc aB q1 r1 (Below.refl _ _).drew OA Ba (Below.refl _ _) OB Bb (ax) OC Bc rfl rfl (World.size_alloc _ _);have hP:=tj.store (width:=wd) t1 t2 t3 zr (by omega) u1 u2 u3 (by omega);clear t1 t2 t3 u1 u2 u3 hn Jm Jo Jn HH HS r1 q1 aB OA OB OC Ba Bb Bc BA BB BC;have HP:zg _:=hP;clear hP
   go_wp2_with fail
   go_meet
   exact⟨_,_,rfl,HP.out⟩
  ·obtain⟨⟨t1,t2,t3⟩,⟨u1,u2,u3⟩,hn⟩:=Tc aB q1 r1 (Below.refl _ _).drew OA Ba (ax) OB Bb (Below.refl _ _) OC Bc rfl (World.size_alloc _ _) rfl;have hP:=tj.store (width:=wd) t1 t2 t3 zr (by omega) u1 u2 u3 (by omega);clear t1 t2 t3 u1 u2 u3 hn Jm Jo Jn HH HS r1 q1 aB OA OB OC Ba Bb Bc BA BB BC;have HP:zg _:=hP;clear hP
   go_wp2_with fail
   go_meet
   exact⟨_,_,rfl,HP.out⟩
  ·obtain⟨⟨t1,t2,t3⟩,⟨u1,u2,u3⟩,hn⟩:=Tc aB q1 r1 (ax).drew OA Ba (Below.refl _ _) OB Bb (Below.refl _ _) OC Bc (World.size_alloc _ _) rfl rfl;have hP:=tj.store (width:=wd) t1 t2 t3 zr (by omega) u1 u2 u3 (by omega);clear t1 t2 t3 u1 u2 u3 hn Jm Jo Jn HH HS r1 q1 aB OA OB OC Ba Bb Bc BA BB BC;have HP:zg _:=hP;clear hP
   go_wp2_with fail
   go_meet
   exact⟨_,_,rfl,HP.out⟩
 case rest=>
  obtain⟨gt,v0,rfl,P⟩:=hcut;clear Jm Jo Jn HS HH r1 q1 aB uP;obtain⟨i0,eC,da,dt,cR⟩:=info_parts Tryz.pX;have cL:=zlu wc
  go_upto_region 5 with (go_at_call 25;refine cL.mono ?_;rintro e w2 ⟨p,rfl,hp,tF,xH,aB⟩)
  clear cL;obtain⟨x0,x1,x2,x3,x4⟩:=dM (aT P.box aB)
  go_upto_region 6 with (refine wpList_make_full _ rfl _ _ 23 rfl w2.heap.size 3 i0 _ 1 underlying23 eC da dt _ _ _ _ d.tag.length rfl rfl rfl rfl (by rw[cR];omega) (by unfold maxLen;omega) (aq _) ?_;intro w3 bL jn)
  have fD:zh w2.heap.size w2 w3:=(Below.refl _ _).grown jn (aq _) (by intro k h;cases h);have hr:=zn4 bL;rw[zqO]at hr;have S0:=P.start hp tF xH aB hr fD;clear bL jn fD hr hp tF xH aB P x0 x1 x2 x3 x4 eC da dt cR;generalize wc.heap.size=gT at *;generalize w2.heap.size=gC at *;obtain⟨x0,x1,x2,x3,x4⟩:=dM S0.box
  go_upto_region 7 with fail
  clear x0 x1 x2 x3 x4
  go_loopw [36] (λi wr=>∃(k:Nat) (L:pI) (v:Nat->zi) (T:Nat->Nat),k<=d.tag.length/\i=ze .i64 k/\zg (mW d.next wd k=zb L)/\q9 w #[zc (zb ⟨cb,co,za⟩) d.ai.length p0,ze .i64 wd,zc (zb ⟨nb,no,za⟩) d.next.length np,zc (zb ⟨tb,tq,za⟩) d.tag.length tp,zc (zb ⟨eb,eq,za⟩) d.fin.length ep] gt p gT gC d.tag.length T wd wr v (bU d.ai d.tag d.fin L [])/\zg (L.next.length=L.az.length/\L.az.length<=60000)/\zg (∀q,oQ T q=!im L.az q)/\zg (L.base.length=k/\L.bA.length=k)/\L.base.length<=4000/\L.bA.length<=4000)
   (λi _=>d.tag.length-(intOf i).toNat)
  case atStart=>exact⟨0,_,_,_,by omega,rfl,rfl,S0,⟨rfl,by simp⟩,λq=>by simp[oQ,im],⟨rfl,rfl⟩,by simp,by simp⟩
  case round=>
   clear S0;obtain⟨k,L,v,T,hk,rfl,HL,S,mE,Px,Py,bF,hdl⟩:=hrel
   by_cases hlt:k<d.tag.length
   ·obtain⟨x0,x1,x2,x3,x4⟩:=dM S.box;have HM:zg (k*wd+wd<=d.next.length):=by
     have:=IM wd (show k+1<=d.tag.length by omega);rw[Bp]at this;show _<=_;rw[Mb.out];exact this
    have hkw:k*wd<=4000*256:=oU (by omega) (by omega);have e1:(k:Int)*(wd:Int)=((k*wd:Nat):Int):=by simp
    have e2:((k:Int)+1)*(wd:Int)=((k*wd+wd:Nat):Int):=by rw[Int.add_mul];simp
    have hM:k*wd+wd<=np:=by have:=HM.out;omega
    generalize EA:k*wd=km at *;have Vt:zg (k*wd=km):=EA;clear EA;have F6:zg (∀j,j<wd->w.cell? ⟨nb,no+km+j,za⟩=zb (ze .i64 ((a8 d.next wd k).getD j 0))):=λj hj=>by
     rw[zof hj,Vt.out,yC];exact Nq.out (km+j) (by have:=HM.out;omega)
    have I2:zg ((a8 d.next wd k).length=wd):=zog (s:=k) Mb.out hlt;have zyn:∀x∈a8 d.next wd k,0<=x/\x<(d.tag.length:Int):=λx hx=>by
     have h1:x∈d.next:=List.mem_of_mem_drop (List.mem_of_mem_take hx);obtain⟨i,hi,rfl⟩:=List.getElem_of_mem h1;have:=ju Hns.out hi;rw[show d.next.getD i 0=d.next[i] by simp[List.getD,hi]]at this;omega
    have cM:=zhS nb (no+km) (np-km) (a8 d.next wd k) gC d.tag.length d.tag.length wr (by have:=S.o4;omega) (dR nl S.below.size) (λj hj=>(S.below.cell (by exact nl)).trans (F6.out j (by have:=I2.out;omega))) S.dO (by have:=I2.out;omega) (by have:=I2.out;omega) zyn;rw[I2.out]at cM;have e3:km+wd-km=wd:=by omega
    go_upto_region 10 with fail
    rw[e3];clear e3 e1 e2 hM x0 x1 x2 x3 x4 zyn
    go_upto_region 11 with (go_at_call 26;refine cM.mono ?_;rintro e wy ⟨rfl,AR⟩)
    clear cM;have S1:=S.grow AR
    clear S AR
    have cP:=zra S1 d.next wd k nb (no+km) (np-km) nl F6 I2.out (by omega) mE Px uF (by omega) HL;clear F6 I2 HL mE Px;generalize dW (a8 d.next wd k)=dv at *
    go_wp2_with fail
    refine cP.mono ?_;clear cP;rintro e wz (⟨rfl,Mc,S2⟩|⟨kk,N',C',T2,v2,rfl,zAc,S2,mE,Px⟩)
    ·clear S1;have vr:zg (jO d=2):=by
      show _=_;unfold jO yu;rw[ab (by simp[hB]),show d.width.toNat=wd by rw[DK.out];rfl,zhM Mc.out _ hlt,af rfl]
     have hr:=S2.bw;have h8:=A5 S2.below (show w.heap.size<=w.heap.size+1 by omega) (zc za 0 0) (ze .i64 0) (zc za 0 0) (zc za 0 0) (zc za 0 0) (zc za 0 0) (zc za 0 0) (zc za 0 0);have fr:∀o,wz.frozen? ⟨w.heap.size+1,o,za⟩=false:=λ_=>aM _ _ _ _ _ hr
     unfold cO at hr;obtain⟨y0,y1,y2,y3,y4,y5,y6,y7⟩:=kH hr;have H8:zg (zh w.heap.size w (lR wz (w.heap.size+1) (zc za 0 0) (ze .i64 0) (zc za 0 0) (zc za 0 0) (zc za 0 0) (zc za 0 0) (zc za 0 0) (zc za 0 0))):=h8;clear h8 hr Mc S2;go_wp2;refine aW (v:=.tuple #[zk #[zc za 0 0,ze .i64 0,zc za 0 0,zc za 0 0,zc za 0 0,zc za 0 0,zc za 0 0,zc za 0 0],ze .i64 2]) (by simp[results,results6,go_sem,y0,y1,y2,y3,y4,y5,y6,y7]) rfl ?_;obtain⟨e1,e2⟩:=OO vr.out (by decide);rw[e1,e2,vr.out];exact⟨w.heap.size,λ_=>zc za 0 0,rfl,aq _,aI.nil _ _ _,H8.out⟩
    ·clear S1;obtain⟨a0,a1,a2,a3,a4,a5,a6,a7⟩:=iV S2.row
     go_upto_region 15 with (refine zjz S2 wz.heap.size rfl rfl (.tmp 66) (.tmp 68) rfl 1 (by omega) 2 rfl L.base rfl L.base.length rfl rfl (kk:Int) rfl (by omega) ?_;intro g1 mL V1 rr SN;clear a0 a1 a2 a3 a4 a5 a6 a7;obtain⟨a0,a1,a2,a3,a4,a5,a6,a7⟩:=iV rr;have xC:=aM _ _ 2 _ _ rr)
     rw[zj9]at SN;clear a0 a1 a2 a3 a4 a5 a6 a7 rr S2 xC;generalize V1.setCell ⟨gt,2,za⟩ (zc (zb ⟨g1,0,za⟩) (L.base.length+1) mL)=V2 at *;generalize upd v2 1 (zc (zb ⟨g1,0,za⟩) (L.base.length+1) mL)=v3 at *;obtain⟨a0,a1,a2,a3,a4,a5,a6,a7⟩:=iV SN.row
     go_wp2_with (refine zjz SN V2.heap.size rfl rfl (.tmp 72) (.tmp 74) rfl 2 (by omega) 3 rfl L.bA rfl L.bA.length rfl rfl dv rfl (by omega) ?_;intro g2 tB V3 rr SM;clear a0 a1 a2 a3 a4 a5 a6 a7;obtain⟨a0,a1,a2,a3,a4,a5,a6,a7⟩:=iV rr;have xC:=aM _ _ 3 _ _ rr)
     rw[zoa]at SM
     go_roundw
     case rel=>exact⟨k+1,_,_,_,by omega,by go_num,zAc.out,SM,mE,Px,⟨by simp[Py.out.1],by simp[Py.out.2]⟩,by have:=Py.out.1;simp;omega,by have:=Py.out.2;simp;omega⟩
     case measure=>simp[intOf];omega
   ·have kz:k=d.tag.length:=by omega
    have HP:=Z8 (d:=d) (L:=L) hB (by unfold yu;rw[show d.width.toNat=wd by rw[DK.out];rfl,<-kz];exact HL.out);have Va:zg (jO d=0/\yv d=wd/\wK d=bU d.ai d.tag d.fin L []):=⟨HP.1,HP.2.1.trans DK.out,HP.2.2⟩;clear HP kz HL;obtain⟨⟨b5,z5⟩,e5⟩:=nX (S.au.own 5 (by omega));obtain⟨⟨b6,z6⟩,e6⟩:=nX (S.au.own 6 (by omega));have HE:zg (Jb w gt wd ((wr.setCell ⟨gt,6,za⟩ (v 5)).setCell ⟨gt,7,za⟩ (v 6)) v (bU d.ai d.tag d.fin L [])):=S.done;rw[e5,e6]at HE;have fr:∀o,wr.frozen? ⟨gt,o,za⟩=false:=λ_=>aM _ _ _ _ _ S.row
    have c6:wr.cell? ⟨gt,6,za⟩=zb (zc za 0 0):=(iV S.row).2.2.2.2.2.2.1;have c7:wr.cell? ⟨gt,7,za⟩=zb (zc za 0 0):=(iV S.row).2.2.2.2.2.2.2;have l1:wr.cell? ⟨p,1,za⟩=zb (v 5):=(A9 S.lay).2.1;have l2:wr.cell? ⟨p,2,za⟩=zb (v 6):=(A9 S.lay).2.2;rw[e5]at l1;rw[e6]at l2;have zu:p≠gt:=S.n1.symm;clear e5 e6 S
    go_upto_region 17 with fail
    go_cut [] from 78 to 87 (λwx=>Jb w gt wd wx v (bU d.ai d.tag d.fin L []))
    case first=>
     go_region
     go_wp2_with fail
     go_meet
     exact HE.out.drew
    case rest=>
     have F7:=hcut.au;have et:=hcut.row;have dK:=hcut.bw;have zl:=hcut.below;have zB0:=hcut.o1;clear hcut HE fr c6 c7 l1 l2;obtain⟨⟨b0,z0⟩,e0⟩:=nX (F7.own 0 (by omega));obtain⟨⟨b1,z1⟩,e1⟩:=nX (F7.own 1 (by omega));obtain⟨⟨b2,z2⟩,e2⟩:=nX (F7.own 2 (by omega));obtain⟨⟨b3,z3⟩,e3⟩:=nX (F7.own 3 (by omega));obtain⟨⟨b4,z4⟩,e4⟩:=nX (F7.own 4 (by omega));obtain⟨⟨b5,z5⟩,e5⟩:=nX (F7.own 5 (by omega));obtain⟨⟨b6,z6⟩,e6⟩:=nX (F7.own 6 (by omega));have fr:∀o,wc.frozen? ⟨w.heap.size+1,o,za⟩=false:=λ_=>aM _ _ _ _ _ dK
     have E:zg (fR wd v=#[.slice b0 (bU d.ai d.tag d.fin L [] 0).length z0,ze .i64 wd,.slice b1 (bU d.ai d.tag d.fin L [] 1).length z1,.slice b2 (bU d.ai d.tag d.fin L [] 2).length z2,.slice b3 (bU d.ai d.tag d.fin L [] 3).length z3,.slice b4 (bU d.ai d.tag d.fin L [] 4).length z4,.slice b5 (bU d.ai d.tag d.fin L [] 5).length z5,.slice b6 (bU d.ai d.tag d.fin L [] 6).length z6]):=by show _=_;unfold fR;rw[e0,e1,e2,e3,e4,e5,e6]
     rw[E.out]at et;unfold cO at dK;obtain⟨x0,x1,x2,x3,x4,x5,x6,x7⟩:=kH et;obtain⟨y0,y1,y2,y3,y4,y5,y6,y7⟩:=kH dK;have h8:=A5 zl (show w.heap.size<=w.heap.size+1 by omega) (.slice b0 (bU d.ai d.tag d.fin L [] 0).length z0) (ze .i64 wd) (.slice b1 (bU d.ai d.tag d.fin L [] 1).length z1) (.slice b2 (bU d.ai d.tag d.fin L [] 2).length z2) (.slice b3 (bU d.ai d.tag d.fin L [] 3).length z3) (.slice b4 (bU d.ai d.tag d.fin L [] 4).length z4) (.slice b5 (bU d.ai d.tag d.fin L [] 5).length z5) (.slice b6 (bU d.ai d.tag d.fin L [] 6).length z6);have f8:=aI.lR F7 (b:=w.heap.size+1) (by omega) (.slice b0 (bU d.ai d.tag d.fin L [] 0).length z0) (ze .i64 wd) (.slice b1 (bU d.ai d.tag d.fin L [] 1).length z1) (.slice b2 (bU d.ai d.tag d.fin L [] 2).length z2) (.slice b3 (bU d.ai d.tag d.fin L [] 3).length z3) (.slice b4 (bU d.ai d.tag d.fin L [] 4).length z4) (.slice b5 (bU d.ai d.tag d.fin L [] 5).length z5) (.slice b6 (bU d.ai d.tag d.fin L [] 6).length z6);have H8:zg _:=And.intro h8 f8;clear h8 f8 e0 e1 e2 e3 e4 e5 e6 et dK F7;go_wp2;refine aW (v:=.tuple #[zk (fR wd v),ze .i64 0]) (by rw[E.out];simp[results,results6,go_sem,y0,y1,y2,y3,y4,y5,y6,y7]) rfl ?_;obtain⟨q1,q2,q3⟩:=Va.out;rw[q1,q2,q3];exact⟨w.heap.size+1,v,rfl,by omega,H8.out.2,H8.out.1⟩
end Go.Proofs.YtfajjdgkiilhfaaGreatDoor
