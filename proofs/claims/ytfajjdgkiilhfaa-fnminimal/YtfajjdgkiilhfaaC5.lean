import Derived.Test.YtfajjdgkiilhfaaC4
import Derived.Deep.Slices
import Derived.Deep.AppendLies
import Derived.Deep.RegionLaw
namespace Go.Proofs.Ytfajjdgkiilhfaa
open Proofs.Try
open Go renaming Value->za,World->zx,TypeId->zB
open Option renaming some->zh,none->zi
open Obj renaming cells->zn
open Value renaming int->zp,slice->zw
open RowKit renaming Below->zy
open Go.RowKit
section
variable {B gt n:Nat}{W W':zx}{v:Nat -> za}{xs:List Int}{l:Nat -> List Int}
def mU(x:Int):za:=zp .i64 x
def dQ(B:Nat)(W:zx)(v:za)(xs:List Int):Prop:=W.ownsRow B 3 1 v xs.length (xs.map mU)
def bq(l:Nat->List Int)(k:Nat)(x:List Int):Nat->List Int:=λj=>if j=k then x else l j
theorem ez(l:Nat->List Int)(k:Nat)(x:List Int):bq l k x k=x:=by simp[bq]
theorem a8(l:Nat->List Int){k j:Nat}(x:List Int)(h:j≠k):bq l k x j=l j:=by simp[bq,h]
theorem bW(S:Nat->za)(v:za){j k:Nat}(h:j≠k):upd S k v j=S j:=by simp[upd,h]
structure aS(gt n:Nat)(W:zx)(v:Nat->za)(l:Nat->List Int):Prop where
 own:∀i,i<n->dQ (gt+1) W (v i) (l i)
 apart:∀i j,i<n->j<n->i≠j->∀b,(v i).ownBlock=zh b->(v j).ownBlock≠zh b
theorem eN{v:za}(h:dQ B W v xs){b:Nat}(hb:v.ownBlock=zh b):B<=b/\b<W.heap.size:=by
 rcases h.2 with ⟨rfl,_⟩|⟨g,cap,a9,rfl,hg,hh,_⟩
 ·simp[Value.ownBlock]at hb
 ·simp[Value.ownBlock]at hb;subst hb;exact⟨hg,(gF.1 hh).1⟩
theorem Cg{v:za}(h:dQ B W v xs)(hk:∀b,v.ownBlock=zh b->W'.heap[b]?=W.heap[b]?):dQ B W' v xs:=by
 refine⟨h.1,?_⟩;rcases h.2 with h2|⟨g,cap,a9,rfl,hg,hh,r⟩
 ·exact .inl h2
 ·exact .inr ⟨g,cap,a9,rfl,hg,by rw[hk g rfl];exact hh,r⟩
theorem aS.keep(h:aS gt n W v l)(hk:∀b,gt<b->b<W.heap.size->W'.heap[b]?=W.heap[b]?):aS gt n W' v l:=
 ⟨λi hi=>Cg (h.own i hi) λb hb=>by have:=eN (h.own i hi) hb;exact hk b (by omega) this.2,h.apart⟩
theorem aS.below(h:aS gt n W v l)(hb:zy W.heap.size W W'):aS gt n W' v l:=h.keep λb _ hl=>hb.block b hl
theorem aS.set(h:aS gt n W v l)(o:Nat)(u:za):aS gt n (W.setCell ⟨gt,o,zi⟩ u) v l:=h.keep λb hb _=>cS _ _ _ _ (by simp;omega)
theorem aS.append(h:aS gt n W v l){i:Nat}(hi:i<n){g cap:Nat}{x:Int}
  (own:W'.ownsRow (gt+1) 3 1 (zw (zh ⟨g,0,zi⟩) ((l i).length+1) cap) ((l i).length+1) ((l i).map mU++[zp .i64 x])) (grow:W.grownBy W' (v i).ownBlock) (at':(v i).ownBlock=zh g\/W.heap.size<=g):
  aS gt n W' (upd v i (zw (zh ⟨g,0,zi⟩) ((l i).length+1) cap)) (bq l i (l i++[x])):=by
 refine⟨λj hj=>?_,λj k hj hk hne b hb=>?_⟩
 ·by_cases e:j=i
  ·subst e;rw[fN,ez];unfold dQ;rw[a6,rR];exact own
  ·rw[bW _ _ e,a8 _ _ e];refine Cg (h.own j hj) λb hb=>?_
   have hlt:=eN (h.own j hj) hb;exact grow.block b hlt.2 (λhc=>h.apart j i hj hi e b hb hc.symm)
 ·have key:∀j,j<n->j≠i->∀b,(v j).ownBlock=zh b->b≠g:=by
   intro j2 e8 e2 b2 aL Fm;rcases at' with a2|a2
   ·rw[<-Fm]at a2;exact h.apart j2 i e8 hi e2 b2 aL a2
   ·have:=(eN (h.own j2 e8) aL).2;omega
  by_cases e:j=i
  ·subst e;rw[fN]at hb;rw[bW _ _ (Ne.symm hne)];simp[Value.ownBlock]at hb;subst hb;intro hc;exact key k hk (Ne.symm hne) _ hc rfl
  ·rw[bW _ _ e]at hb
   by_cases e2:k=i
   ·subst e2;rw[fN];intro hc;simp[Value.ownBlock]at hc;exact key j hj e b hb hc.symm
   ·rw[bW _ _ e2];exact h.apart j k hj hk hne b hb
theorem aS.nil(gt n:Nat)(W:zx):aS gt n W (λ_=>zw zi 0 0) (λ_=>[]):=
 ⟨λ_ _=>⟨rfl,.inl ⟨rfl,rfl⟩⟩,λ_ _ _ _ _ b hb=>by simp[Value.ownBlock]at hb⟩
theorem dQ.at{v:za}(h:dQ B W v xs)(hl:xs.length<=9223372036854775807):dW B W v xs:=by
 rcases h.2 with ⟨rfl,h0⟩|⟨g,cap,a9,rfl,hg,hh,hn,kf,hsz,ht⟩
 ·have:xs=[]:=qj h0;subst this;exact⟨zi,0,rfl,by simp,λh=>absurd h (by simp)⟩
 ·refine⟨zh ⟨g,0,zi⟩,cap,rfl,hl,λ_=>⟨g,0,rfl,hg,(gF.1 hh).1,λi hi=>?_⟩⟩;have:W.ownsRow B 3 1 (zw (zh ⟨g,0,zi⟩) xs.length cap) xs.length (xs.map mU):=h;rw[jB,this.cellAt i (by omega)];simp[mU,List.getD,hi]
end
section
variable {l zs os:List Nat}{m:Nat -> Nat -> Bool}{n k c:Nat}{d:aE}{ch:Nat -> Nat}
structure CB(d:aE)(l:List Nat)(ch:Nat->Nat):Prop where
 mem:∀s∈l,ch s∈l
 al:∀s∈l,cD (ai d) (au d) s (ch s)
 eq:∀s∈l,∀t∈l,cD (ai d) (au d) s t->ch s=ch t
def GH(l:List Nat)(m:Nat->Nat->Bool)(zs:List Nat)(n k:Nat):Prop:=
 zs.length=n/\∀i,i<k->∃q,q<l.length/\zs.getD (l.getD i 0) 0=l.getD q 0/\m i q=false/\∀j,j<q->m i j=true
theorem GH.next(h:GH l m zs n k)(hn:l.Nodup)(hk:k<l.length)(hl:l.getD k 0<n){q:Nat}(hq:q<l.length)(hm:m k q=false)(hj:∀j,j<q->m k j=true):GH l m (zs.set (l.getD k 0) (l.getD q 0)) n (k+1):=by
 have h1:=h.1;refine⟨by simp[h.1],λi hi=>?_⟩
 by_cases e:i=k
 ·subst e;exact⟨q,hq,by rw[bI,List.getElem?_set_self (by omega)];rfl,hm,hj⟩
 ·obtain⟨q',a1,a2,a3,a4⟩:=h.2 i (by omega);have hne:l.getD k 0≠l.getD i 0:=λe2=>e (TG hn hk (by omega) e2).symm
  exact⟨q',a1,by rw[bI,List.getElem?_set_ne hne,<-bI];exact a2,a3,a4⟩
theorem GH.zzC(h:GH l m zs n l.length)(hm:∀x y,x<l.length->y<l.length->(m x y=false↔cD (ai d) (au d) (l.getD x 0) (l.getD y 0))):CB d l (λs=>zs.getD s 0):=by
 refine⟨λs hs=>?_,λs hs=>?_,λs hs t ht e=>?_⟩
 ·obtain⟨i,hi,rfl⟩:=Gi hs;obtain⟨q,a1,a2,_⟩:=h.2 i hi;show zs.getD (l.getD i 0) 0∈l;rw[a2];exact kO a1
 ·obtain⟨i,hi,rfl⟩:=Gi hs;obtain⟨q,a1,a2,a3,_⟩:=h.2 i hi;show cD _ _ _ (zs.getD (l.getD i 0) 0);rw[a2];exact(hm i q hi a1).1 a3
 ·obtain⟨i,hi,rfl⟩:=Gi hs;obtain⟨i',qy,rfl⟩:=Gi ht;obtain⟨q,a1,a2,a3,a4⟩:=h.2 i hi;obtain⟨q',b1,b2,b3,b4⟩:=h.2 i' qy;show zs.getD (l.getD i 0) 0=zs.getD (l.getD i' 0) 0;have hq:q=q':=by
   rcases Nat.lt_trichotomy q q' with k|k|k
   ·have h1:=b4 q k;rw[(hm i' q qy a1).2 (e.symm.trans ((hm i q hi a1).1 a3))]at h1;cases h1
   ·exact k
   ·have h1:=a4 q' k;rw[(hm i q' hi b1).2 (e.trans ((hm i' q' qy b1).1 b3))]at h1;cases h1
  rw[a2,b2,hq]
structure qp(d:aE)(l:List Nat)(ch:Nat->Nat)(os:List Nat)(k c:Nat):Prop where
 al:sW (ai d) (au d) os (aF (ai d) (au d) k c)
 can:∀o∈os,o∈l/\ch o=o
 nd:os.Nodup
theorem CB.Te(h:CB d l ch){s:Nat}(hs:s∈l):ch (ch s)=ch s:=(h.eq s hs (ch s) (h.mem s hs) (h.al s hs)).symm
theorem qp.start(h:CB d l ch)(hR:uM d l):qp d l ch [ch 0] 0 0:=by
 have h0:(0:Nat)∈l:=by have:=kO hR.pos;rw[hR.head]at this;exact this
 refine⟨?_,λo ho=>?_,by simp⟩
 ·rw[xq];exact .cons (h.al 0 h0).symm .nil
 ·simp at ho;subst ho;exact⟨h.mem 0 h0,h.Te h0⟩
theorem zhl(h:CB d l ch){os:List Nat}(hc:∀o∈os,o∈l/\ch o=o){x:Nat}(hx:x∈l)(ex:ch x=x):lg (aO os) (x:Int)=if dZ (ai d) (au d) os x<os.length then (dZ (ai d) (au d) os x:Int) else -1:=by
 have e:(aO os).findIdx (· == (x:Int))=dZ (ai d) (au d) os x:=by
  unfold aO dZ;rw[List.findIdx_map];have hp:∀os':List Nat,(∀o∈os',o∈os)->os'.findIdx ((λy:Int=>y==(x:Int)) ∘ λx:Nat=>(x:Int))=os'.findIdx λo=>decide (cD (ai d) (au d) o x):=by
   intro os' hs
   induction os' with
   |nil=>rfl
   |cons o os' ih=>
    rw[Gy,Gy,ih (λy hy=>hs y (by simp[hy]))];have ho:=hc o (hs o (by simp));have:((λy:Int=>y==(x:Int)) ∘ λx:Nat=>(x:Int)) o=decide (cD (ai d) (au d) o x):=by
     by_cases al:cD (ai d) (au d) o x
     ·have e:=h.eq o ho.1 x hx al;rw[ho.2,ex]at e;subst e;simp[al]
     ·have:o≠x:=λe=>al (e ▸ cD.refl _ _ _)
      simp[al];omega
    rw[this]
  exact hp os λ_ h=>h
 unfold lg;rw[e,cW]
theorem qp.to(h:CB d l ch)(hR:uM d l){os:List Nat}{k c:Nat}(hO:qp d l ch os k c)(hk:k<os.length)(hc:c<256):ai d (os.getD k 0) c∈l/\ch (ai d (os.getD k 0) c)∈l/\ch (ch (ai d (os.getD k 0) c))=ch (ai d (os.getD k 0) c)/\cD (ai d) (au d) (ch (ai d (os.getD k 0) c)) (ai d ((aF (ai d) (au d) k c).getD k 0) c):=by
 have h1:=hR.cl _ (hO.can _ (kO hk)).1 c hc;exact⟨h1,h.mem _ h1,h.Te h1,(h.al _ h1).symm.trans ((hO.al.at k hk).step hc)⟩
theorem qp.old(h:CB d l ch)(hR:uM d l){os:List Nat}{k c:Nat}(hO:qp d l ch os k c)(hk:k<os.length)(hc:c<256)(hp:¬lg (aO os) (ch (ai d (os.getD k 0) c):Int)<0):
  qp d l ch os k (c+1)/\lg (aO os) (ch (ai d (os.getD k 0) c):Int)=(Ct (ai d) (au d) k c:Int):=by
 obtain⟨h1,h2,h3,h4⟩:=hO.to h hR hk hc;have dz:=zhl h hO.can h2 h3;have hi:=hO.al.idx h4;have hlt:dZ (ai d) (au d) os (ch (ai d (os.getD k 0) c))<os.length:=by
  by_cases e:dZ (ai d) (au d) os (ch (ai d (os.getD k 0) c))<os.length
  ·exact e
  ·rw[ab e]at dz;omega
 rw[ae hlt]at dz;refine⟨⟨?_,hO.can,hO.nd⟩,?_⟩
 ·rw[yZ];unfold nD;rw[ae (by rw[<-hi,<-hO.al.length];exact hlt)];exact hO.al
 ·rw[dz,zeh,hi]
theorem qp.new(h:CB d l ch)(hR:uM d l){os:List Nat}{k c:Nat}(hO:qp d l ch os k c)(hk:k<os.length)(hc:c<256)(hp:lg (aO os) (ch (ai d (os.getD k 0) c):Int)<0):
  qp d l ch (os++[ch (ai d (os.getD k 0) c)]) k (c+1)/\lg (aO (os++[ch (ai d (os.getD k 0) c)])) (ch (ai d (os.getD k 0) c):Int)=(Ct (ai d) (au d) k c:Int):=by
 obtain⟨h1,h2,h3,h4⟩:=hO.to h hR hk hc;have dz:=zhl h hO.can h2 h3;have hi:=hO.al.idx h4;have hlt:¬dZ (ai d) (au d) os (ch (ai d (os.getD k 0) c))<os.length:=by
  intro e;rw[ae e]at dz;omega
 have zwW:∀o∈os++[ch (ai d (os.getD k 0) c)],o∈l/\ch o=o:=λo ho=>by
  rcases gH.1 ho with k1|k1
  ·exact hO.can o k1
  ·simp at k1;subst k1;exact⟨h2,h3⟩
 have Sp:sW (ai d) (au d) (os++[ch (ai d (os.getD k 0) c)]) (aF (ai d) (au d) k (c+1)):=by
  rw[yZ];unfold nD;rw[ab (by rw[<-hi,<-hO.al.length];exact hlt)];exact hO.al.snoc h4
 have pU:ch (ai d (os.getD k 0) c)∉os:=λhm=>hlt (Cl.2 ⟨_,hm,cD.refl _ _ _⟩)
 refine⟨⟨Sp,zwW,?_⟩,?_⟩
 ·rw[Gw];exact⟨hO.nd,by simp,λa ha b hb=>by simp at hb;subst hb;exact λe=>pU (e ▸ ha)⟩
 ·rw[zhl h zwW h2 h3,Uh hlt,ae (cD.refl _ _ _),ae (by simp),zeh,<-hi];have:=Uq (ai d) (au d) os (ch (ai d (os.getD k 0) c));omega
theorem qp.row(hO:qp d l ch os k c)(hc:c=256):qp d l ch os (k+1) 0:=by
 subst hc;exact⟨by rw[xp];exact hO.al,hO.can,hO.nd⟩
theorem qp.len(hO:qp d l ch os k c)(hR:uM d l):os.length<=d.tag.length:=
 sT _ os hO.nd λx hx=>hR.lt x (hO.can x hx).1
end
section
variable {B gt n K c j:Nat}{W W':zx}{v:Nat -> za}{xs:List Int}{l:Nat -> List Int}{R:Nat -> Nat -> Nat}
theorem zjk{w:zx}{x:za}{t:zB}(h:w.heap[B]?=zh (zn #[x] t (0,0))):∀j u,[x][j]?=zh u->w.cell? ((⟨B,0,zi⟩:Addr).add j)=zh u:=World.news_of_block h
theorem cJ{v:za}(h:dQ B W v xs):∃r:Option Addr×Nat,v=.slice r.1 xs.length r.2:=by
 rcases h.2 with ⟨rfl,h0⟩|⟨g,cap,a9,rfl,_⟩
 ·exact⟨(zi,0),by rw[h0]⟩
 ·exact⟨(zh ⟨g,0,zi⟩,cap),rfl⟩
theorem pC{v:za}(h:dQ B W v xs)(hne:0<xs.length):∃g cap,v=zw (zh ⟨g,0,zi⟩) xs.length cap/\B<=g/\g<W.heap.size/\∀j,j<xs.length->W.cell? ⟨g,j,zi⟩=zh (zp .i64 (xs.getD j 0)):=by
 have h':W.ownsRow B 3 1 v xs.length (xs.map mU):=h;rcases h.2 with ⟨rfl,h0⟩|⟨g,cap,a9,rfl,hg,hh,_⟩
 ·omega
 ·refine⟨g,cap,rfl,hg,(gF.1 hh).1,λj hj=>?_⟩;rw[h'.cellAt j (by omega)];simp[mU,List.getD,hj]
theorem jx{v:za}(h:dQ B W v xs){b:Nat}(hb:v.ownBlock=zh b):∃a9:Array za,W.heap[b]?=zh (zn a9 3 (0,0)):=by
 rcases h.2 with ⟨rfl,_⟩|⟨g,cap,a9,rfl,hg,hh,_⟩
 ·simp[Value.ownBlock]at hb
 ·simp[Value.ownBlock]at hb;subst hb;exact⟨a9,hh⟩
theorem aS.sI(h:aS gt n W v l)(hk:∀i,i<n->∀b,(v i).ownBlock=zh b->W'.heap[b]?=W.heap[b]?):aS gt n W' v l:=
 ⟨λi hi=>Cg (h.own i hi) (hk i hi),h.apart⟩
theorem aS.other(h:aS gt n W v l){g:Nat}{cs:Array za}{e:zB}(hg:W.heap[g]?=zh (zn cs e (0,0)))(he:e≠3)(kZ:W.grownBy W' (zh g)):aS gt n W' v l:=
 h.sI λi hi b hb=>by
  obtain⟨a9,hc⟩:=jx (h.own i hi) hb;exact kZ.block b (gF.1 hc).1 (λe2=>by cases e2;rw[hg]at hc;exact he (er hc))
theorem aS.others(h:aS gt n W v l){i:Nat}(hi:i<n)(kZ:W.grownBy W' (v i).ownBlock){b:Nat}{cs:Array za}{e:zB}(he:e≠3)(hb:W.heap[b]?=zh (zn cs e (0,0))):W'.heap[b]?=zh (zn cs e (0,0)):=
 (kZ.block b (gF.1 hb).1 (λe2=>by
  obtain⟨a9,hc⟩:=jx (h.own i hi) e2.symm;rw[hb]at hc;exact he (er hc))).trans hb
theorem aS.new(h:aS gt n W v l)(hB:gt+1<=W.heap.size):aS gt (n+1) (W.alloc (zn #[] 3)) (upd v n (zw (zh ⟨W.heap.size,0,zi⟩) 0 0)) (bq l n []):=by
 have hb:zy W.heap.size W (W.alloc (zn #[] 3)):=aC;have h':=h.below hb;refine⟨λi hi=>?_,λi j hi hj hne b qw=>?_⟩
 ·by_cases e:i=n
  ·subst e;rw[fN,ez];exact Ge (Js W 3) hB
  ·rw[bW _ _ e,a8 _ _ e];exact h'.own i (by omega)
 ·by_cases e:i=n
  ·subst e;rw[fN]at qw;rw[bW _ _ (Ne.symm hne)];simp[Value.ownBlock]at qw;intro hc;have:=(eN (h.own j (by omega)) hc).2;omega
  ·rw[bW _ _ e]at qw
   by_cases e2:j=n
   ·subst e2;rw[fN];have:=(eN (h.own i (by omega)) qw).2;simp[Value.ownBlock];omega
   ·rw[bW _ _ e2];exact h.apart i j (by omega) (by omega) hne b qw
theorem aS.congr{v':Nat->za}{l':Nat->List Int}(h:aS gt n W v l)(hv:∀i,i<n->v i=v' i)(hl:∀i,i<n->l i=l' i):aS gt n W v' l':=
 ⟨λi hi=>by rw[<-hv i hi,<-hl i hi];exact h.own i hi,λi j hi hj hne b hb=>by rw[<-hv j hj];rw[<-hv i hi]at hb;exact h.apart i j hi hj hne b hb⟩
theorem jw{ops:Array Oper}{rest:List Oper}{o:Oper}{a:Act}{Q:Exit->Act->zx->Prop}(S:aS gt n W v l)(H:Nat)(hH:W.heap.size=H)(mb:o.guard=zi)(s x:Operand)
  (ho:o.op=.call {callee:=.builtin .append,args:=#[s,x],argTypes:=#[23,23]}) (i:Nat) (hi:i<n) (xs:List Int) (Jc:l i=xs) (m:Nat) (hn:xs.length=m) (hs:a.eval s=v i) (y:Int) (hx:a.eval x=zw (zh ⟨H,0,zi⟩) 1 1) (hl:m<=2000000) (hB:gt+1<=W.heap.size)
  (h:∀g cap W',aS gt n W' (upd v i (zw (zh ⟨g,0,zi⟩) (m+1) cap)) (bq l i (xs++[y]))->W.grownBy W' (v i).ownBlock->wpList prog ops Q rest (a.put o.dst (zw (zh ⟨g,0,zi⟩) (m+1) cap)) W'):
  wpList prog ops Q (o::rest) a (W.alloc (zn #[zp .i64 y] 3)):=by
 subst hH;subst hn;subst Jc;obtain⟨i0,fk,eQ,eR,dR⟩:=info_parts Try.wP;have hb:zy W.heap.size W (W.alloc (zn #[zp .i64 y] 3)):=aC;have own:(W.alloc (zn #[zp .i64 y] 3)).ownsRow (gt+1) 3 1 (v i) (l i).length ((l i).map mU):=(S.below hb).own i hi;refine wpList_append_lies _ mb s x 23 ho (gt+1) 3 i0 _ 1 8 underlying23 fk eQ eR dR rfl (by omega) (v i) (l i).length ((l i).map mU) hs own ⟨W.heap.size,0,zi⟩ 1 1 [zp .i64 y] hx rfl (zjk (aU _ _)) (by intro u hu;simp at hu;subst hu;rfl) (by omega) (by unfold maxLen;omega) (by omega) (by simp;omega) (W.heap.size+1) (by simp) ?_;intro g cap W' yV iy at' _;refine h g cap W' (aS.append (S.below hb) hi yV iy (at'.imp id (λh=>by simp;omega))) ?_;exact⟨iy.os,iy.tape,iy.output,cM hb.size iy.size,λk hk hne=>(iy.block k (by have:=hb.size;omega) hne).trans (hb.block k hk)⟩
theorem znn(K:Nat)(R:Nat->Nat->Nat)(h c:Nat):je (K+1) R h c=(je K R h c&&(R K h==R K c)):=by simp[je,List.range_succ]
theorem Qn(hj:j<(aM K R c).length):je K R ((aM K R c).getD j 0) c=true↔da K R c=j:=by
 have hg:(aM K R c).getD j 0=(aM K R c)[j]:=by rw[bI,bE hj];rfl
 constructor
 ·intro h;unfold da;rw[List.findIdx_eq hj];refine⟨by rw[<-hg];exact h,λi hi=>?_⟩;cases e:je K R (aM K R c)[i] c
  ·rfl
  ·have Fv:(aM K R c).getD i 0=(aM K R c)[i]:=by rw[bI,bE (by omega)];rfl
   have:i=j:=Tx K R c i j (by omega) hj (by
    rw[D7]at *;intro k hk;rw[Fv];exact(e k hk).trans (h k hk).symm)
   omega
 ·intro h;have h1:da K R c<(aM K R c).length:=by omega
  have:=List.findIdx_getElem (w:=h1);unfold da at h;rw[hg]
  simpa [h]using this
def wb(K:Nat)(R:Nat->Nat->Nat)(c j:Nat):Int:=if da K R c<j then (da K R c:Int) else -1
theorem zqt(hj:j<(aM K R c).length)(h:je K R ((aM K R c).getD j 0) c=true):wb K R c (j+1)=j:=by
 have:=(Qn hj).1 h;unfold wb;rw[ae (by omega),this]
theorem zsd(hj:j<(aM K R c).length)(h:je K R ((aM K R c).getD j 0) c=false):wb K R c (j+1)=wb K R c j:=by
 have:da K R c≠j:=λe=>by have:=(Qn hj).2 e;rw[h]at this;cases this
 unfold wb
 by_cases e:da K R c<j
 ·rw[ae e,ae (by omega)]
 ·rw[ab e,ab (by omega)]
end
section
variable {lo p6 k gt n B g cap:Nat}{w W5 W W':zx}{v:Nat -> za}{d:aE}{rv:za}{ls:Nat -> List Int}{os:List Nat}
theorem dW.low{v:za}{xs:List Int}(h:dW lo w v xs)(hl:p6<=lo):dW p6 w v xs:=by
 obtain⟨a,c,h1,h2,h3⟩:=h;exact⟨a,c,h1,h2,λhx=>by obtain⟨b,o,e1,e2,e3⟩:=h3 hx;exact⟨b,o,e1,by omega,e3⟩⟩
theorem dk.low{cv nv tv ev:za}(h:dk lo w cv nv tv ev d)(hl:p6<=lo):dk p6 w cv nv tv ev d:=⟨h.aD.low hl,h.next.low hl,h.tag.low hl,h.fin.low hl⟩
def fH(width:Int)(v:Nat->za):Array za:=#[v 0,zp .i64 width,v 1,v 2,v 3]
def bm:Array za:=#[zw zi 0 0,zp .i64 0,zw zi 0 0,zw zi 0 0,zw zi 0 0]
def Mq(w:zx)(width:Int)(l:Nat->List Int)(e:Ending)(w':zx):Prop:=∃(gt:Nat) (v:Nat->za),e=.returned (.agg (fH width v))/\w.heap.size<=gt/\aS gt 4 w' v l/\zy w.heap.size w w'
noncomputable def aN (d:aE):Nat->Nat->Nat:=Ct (ai d) (au d)
noncomputable def dG (d:aE) (K:Nat):Nat->List Int
 |0=>(List.range 256).map λc=>(da K (aN d) c:Int)
 |1=>(List.range K).flatMap λk=>(aM K (aN d) 256).map λh=>(aN d k h:Int)
 |2=>(aF (ai d) (au d) K 0).map λs=>d.tag.getD s 0
 |_=>(aF (ai d) (au d) K 0).map λs=>d.fin.getD s 0
def Rj(w:zx)(d:aE)(e:Ending)(w':zx):Prop:=∃K,qd (ai d) (au d) K/\(aF (ai d) (au d) K 0).length=K/\Mq w (aM K (aN d) 256).length (dG d K) e w'
theorem T4(hf:cL d){s c:Nat}(hs:s<d.tag.length)(hc:c<256):JI d (s:Int) c=(ai d s c:Int):=by
 have h1:=hf.sf hc;have h2:=hf.nx hs h1.2;have hw:=hf.wd.1;unfold JI zrS Cq;rw[h1.1,hw];have e:((s:Int)*(aW d:Int)+(eH d c:Int)).toNat=s*aW d+eH d c:=by
  have:(s:Int)*(aW d:Int)+(eH d c:Int)=((s*aW d+eH d c:Nat):Int):=by simp
  rw[this,uA]
 rw[e];exact h2.1
theorem zqX(cv nv tv ev:za)(d:aE)(s c t:Nat)(ci:Int)(Le:ci=c)(w:zx)(hs:dk lo w cv nv tv ev d)(hf:cL d)(h1:s<d.tag.length)(hc:c<256)(ht:ai d s c=t):
  Calls prog 61 #[.agg #[cv,zp .i64 d.width,nv,tv,ev],zp .i64 (s:Int),zp .i64 ci] w λe w'=>e=.returned (zp .i64 (t:Int))/\zy w.heap.size w w':=by
 subst Le;refine(zsy cv nv tv ev d (s:Int) c w hs hf (by omega) (by omega) hc).mono ?_;rintro e w' ⟨rfl,hb⟩;rw[T4 hf h1 hc,ht];exact⟨rfl,hb⟩
noncomputable def wV (d:aE) (x c:Nat):List Int:=(List.range c).map λc=>(aN d x c:Int)
theorem P6(d:aE)(x c:Nat):(wV d x c).length=c:=by simp[wV]
theorem zkL(d:aE)(x c:Nat):wV d x (c+1)=wV d x c++[(aN d x c:Int)]:=by simp[wV,List.range_succ]
theorem zrh(d:aE)(x:Nat){c n:Nat}(h:c<n):(wV d x n).getD c 0=(aN d x c:Int):=by simp[wV,List.getD,h]
def Ei(v:Nat->za)(k:Nat):List za:=(List.range k).map λx=>v (x+1)
theorem znU(v:Nat->za)(k:Nat):Ei v (k+1)=Ei v k++[v (k+1)]:=by simp[Ei,List.range_succ]
theorem zht{v':Nat->za}(h:∀x,x<k->v (x+1)=v' (x+1)):Ei v k=Ei v' k:=uB λx hx=>h x (by simpa using hx)
structure og(d:aE)(W5:zx)(gt:Nat)(W:zx)(k:Nat)(rv:za)(v:Nat->za)(ls:Nat->List Int)(os:List Nat)(n:Nat):Prop where
 aq:aS gt n W v ls
 l0:ls 0=aO os
 lk:∀x,x<k->ls (x+1)=wV d x 256
 out:W.ownsRow (gt+1) 23 1 rv k (Ei v k)
 below:zy (gt+1) W5 W
 jc:W5.heap.size=gt+1
theorem og.size(h:og d W5 gt W k rv v ls os n):gt+1<=W.heap.size:=by have:=h.below.size;rw[h.jc]at this;exact this
theorem og.on(h:og d W5 gt W k rv v ls os n)(hb:zy W.heap.size W W'):og d W5 gt W' k rv v ls os n:=
 ⟨h.aq.below hb,h.l0,h.lk,jy h.out hb,h.below.trans (hb.mono h.size),h.jc⟩
theorem PO{l:Nat->List Int}(h:aS gt n W v l){i:Nat}(hi:i<n)(kZ:W.grownBy W' (v i).ownBlock){B:Nat}{rv:za}{k:Nat}{xs:List za}(ho:W.ownsRow B 23 1 rv k xs):W'.ownsRow B 23 1 rv k xs:=
 oI ho λ_ _ e=>h.others hi kZ (by decide) e
theorem og.new(h:og d W5 gt W k rv v ls os n)(hn:k<n):og d W5 gt (W.alloc (zn #[] 3)) k rv (upd v n (zw (zh ⟨W.heap.size,0,zi⟩) 0 0)) (bq ls n []) os (n+1):=by
 have hb:zy W.heap.size W (W.alloc (zn #[] 3)):=aC;refine⟨h.aq.new h.size,by rw[a8 _ _ (by omega)];exact h.l0,λx hx=>by rw[a8 _ _ (by omega)];exact h.lk x hx,?_,h.below.trans (hb.mono h.size),h.jc⟩;rw[zht (v':=v) (λx hx=>bW _ _ (by omega))];exact jy h.out hb
theorem og.grow(h:og d W5 gt W k rv v ls os n){i:Nat}(hi:i<n)(hik:i=0\/k<i){u:za}{ys:List Int}(hF:aS gt n W' (upd v i u) (bq ls i ys))(hg:W.grownBy W' (v i).ownBlock){os':List Nat}(ho:bq ls i ys 0=aO os'):og d W5 gt W' k rv (upd v i u) (bq ls i ys) os' n:=by
 refine⟨hF,ho,λx hx=>by rw[a8 _ _ (by omega)];exact h.lk x hx,?_,h.below.grown hg h.size (λb hb=>(eN (h.aq.own i hi) hb).1),h.jc⟩;rw[zht (v':=v) (λx hx=>bW _ _ (by omega))];exact PO h.aq hi hg h.out
theorem vw{xs:List za}(h:W.ownsRow B 23 1 (zw (zh ⟨g,0,zi⟩) k cap) k xs):∃a9:Array za,W.heap[g]?=zh (zn a9 23 (0,0)):=by
 rcases h.2 with ⟨h0,_⟩|⟨g',cap',a9,hv,_,hh,_⟩
 ·cases h0
 ·cases hv;exact⟨a9,hh⟩
theorem og.more{rv':za}(h:og d W5 gt W k (zw (zh ⟨g,0,zi⟩) k cap) v ls os (k+2))(hl:ls (k+1)=wV d k 256)(hg:W.grownBy W' (zh g))(ho:W'.ownsRow (gt+1) 23 1 rv' (k+1) (Ei v k++[v (k+1)])):og d W5 gt W' (k+1) rv' v ls os (k+2):=by
 obtain⟨a9,hc⟩:=vw h.out;refine⟨h.aq.other hc (by decide) hg,h.l0,λx hx=>?_,by rw[znU];exact ho,h.below.grown hg h.size (λb hb=>by cases hb;exact(nW h.out).1),h.jc⟩
 by_cases e:x=k
 ·subst e;exact hl
 ·exact h.lk x (by omega)
theorem UA{x:Int}(h:W.heap[g]?=zh (zn #[zp .i64 x] 3 (0,0)))(hB:B<=g):dQ B W (zw (zh ⟨g,0,zi⟩) 1 1) [x]:=
 ⟨rfl,.inr ⟨g,1,_,rfl,hB,h,ax _,by unfold maxLen;omega,rfl,rfl⟩⟩
theorem og.start{x:Nat}(ht:W5.heap.size=gt+1):og d W5 gt ((W5.alloc (zn #[zp .i64 (x:Int)] 3)).alloc (zn #[] 23)) 0 (zw (zh ⟨W5.heap.size+1,0,zi⟩) 0 0) (λ_=>zw (zh ⟨W5.heap.size,0,zi⟩) 1 1) (λ_=>[(x:Int)]) [x] 1:=by
 have aP:zy W5.heap.size W5 (W5.alloc (zn #[zp .i64 (x:Int)] 3)):=aC;have aL:zy W5.heap.size W5 ((W5.alloc (zn #[zp .i64 (x:Int)] 3)).alloc (zn #[] 23)):=aP.alloc aP.size _;have h1:((W5.alloc (zn #[zp .i64 (x:Int)] 3)).alloc (zn #[] 23)).heap[W5.heap.size]?=zh (zn #[zp .i64 (x:Int)] 3 (0,0)):=
  (Below.heap_alloc _ _ _ (by simp)).trans (aU W5 _)
 have h2:=Js (W5.alloc (zn #[zp .i64 (x:Int)] 3)) 23;refine⟨⟨λi hi=>UA h1 (by omega),λi j hi hj hne=>by omega⟩,rfl,λx hx=>by omega,?_,by rw[<-ht];exact aL,ht⟩;have e:(W5.alloc (zn #[zp .i64 (x:Int)] 3)).heap.size=W5.heap.size+1:=by simp
 rw[e]at h2;exact Ge h2 (by omega)
end
variable {W w W8 W':zx}{gt n g gm k b:Nat}{v:Nat -> za}{l ls:Nat -> List Int}{d:aE}{os:List Nat}
theorem Try.ZO:(prog.info? 23).map (λi=>(i.zero,i.size,i.bytes))=zh (zh (zw zi 0 0),1,24):=by kernel_rfl
def Wv(ats:Array zB)(ty:zB)(args:Array za):Sem za:=Builtin.append_ ats ty args
theorem zeH(ty:zB)(args:Array za):Builtin.append_ #[23,23] ty args=Wv #[23,23] ty args:=rfl
theorem zle(S:aS gt n W v l)(i:Nat)(hi:i<n)(xs:List Int)(Jc:l i=xs)(m:Nat)(hn:xs.length=m)(vi:za)(hv:v i=vi)(y:Int)(hl:m<=2000000)(hB:gt+1<=W.heap.size)(ty:zB):
  ∃g cap W',(Wv #[23,23] ty #[vi,zw (zh ⟨W.heap.size,0,zi⟩) 1 1]).run prog ((W.alloc (zn #[zp .i64 y] 3)).drew)=.ok (zw (zh ⟨g,0,zi⟩) (m+1) cap) W'/\aS gt n W' (upd v i (zw (zh ⟨g,0,zi⟩) (m+1) cap)) (bq l i (xs++[y]))/\W.grownBy W' (v i).ownBlock:=by
 subst hn;subst Jc;subst hv;obtain⟨i0,fk,eQ,eR,dR⟩:=info_parts Try.wP;have hb:zy W.heap.size W ((W.alloc (zn #[zp .i64 y] 3)).drew):=(aC).drew;have own:((W.alloc (zn #[zp .i64 y] 3)).drew).ownsRow (gt+1) 3 1 (v i) (l i).length ((l i).map mU):=(S.below hb).own i hi;have hsz:((W.alloc (zn #[zp .i64 y] 3)).drew).heap.size=W.heap.size+1:=by simp
 obtain⟨g,cap,W',hr,yV,iy,at',_⟩:=run_append_lies (P:=prog) ((W.alloc (zn #[zp .i64 y] 3)).drew) 23 ty (gt+1) 3 i0 _ 1 8 underlying23 fk eQ eR dR rfl (by omega) (v i) (l i).length ((l i).map mU) own ⟨W.heap.size,0,zi⟩ 1 1 [zp .i64 y] rfl (zjk (P7 (aU _ _))) (by intro u hu;simp at hu;subst hu;rfl) (by omega) (by unfold maxLen;omega) (by omega) (by omega) (W.heap.size+1) hsz;refine⟨g,cap,W',hr,aS.append (S.below hb) hi yV iy (at'.imp id (λh=>by omega)),?_⟩;exact⟨iy.os.trans hb.os,iy.tape.trans hb.tape,iy.output.trans hb.output,cM hb.size iy.size,λk hk hne=>(iy.block k (by have:=hb.size;omega) hne).trans (hb.block k hk)⟩
def sK(i:Nat):Nat:=if i=0 then 0 else i+1
theorem PX(width:Int)(v:Nat->za)(i:Nat)(hi:i<4)(u:za):(fH width v).setIfInBounds (sK i) u=fH width (upd v i u):=by
 match i,hi with
 |0,_=>rfl
 |1,_=>rfl
 |2,_=>rfl
 |3,_=>rfl
theorem zpD(width:Int)(v:Nat->za)(u:za):fH width (upd v 4 u)=fH width v:=rfl
theorem cE{width:Int}{t:zB}(h:w.heap[g]?=zh (zn (fH width v) t (0,0))):w.cell? ⟨g,0,zi⟩=zh (v 0)/\w.cell? ⟨g,1,zi⟩=zh (zp .i64 width)/\w.cell? ⟨g,2,zi⟩=zh (v 1)/\w.cell? ⟨g,3,zi⟩=zh (v 2)/\w.cell? ⟨g,4,zi⟩=zh (v 3):=bL h
structure lI(W8:zx)(gm:Nat)(W:zx)(width:Int)(v:Nat->za)(ls:Nat->List Int):Prop where
 aq:aS gm 5 W v ls
 box:W.heap[gm]?=zh (zn (fH width v) 25 (0,0))
 below:zy gm W8 W
 jc:W8.heap.size=gm
theorem lI.size{width:Int}(h:lI W8 gm W width v ls):gm+1<=W.heap.size:=az h.box
theorem lI.on{width:Int}(h:lI W8 gm W width v ls)(hb:zy W.heap.size W W'):lI W8 gm W' width v ls:=
 ⟨h.aq.below hb,aY h.box hb,h.below.trans (hb.mono (cM (Nat.le_succ _) h.size)),h.jc⟩
theorem lI.heads{width:Int}(h:lI W8 gm W width v ls){u:za}{ys:List Int}(hF:aS gm 5 W' (upd v 4 u) (bq ls 4 ys))(hg:W.grownBy W' (v 4).ownBlock):lI W8 gm W' width (upd v 4 u) (bq ls 4 ys):=
 ⟨hF,by rw[zpD];exact h.aq.others (i:=4) (by omega) hg (by decide) h.box,h.below.grown hg (cM (Nat.le_succ _) h.size) (λb hb=>by have:=(eN (h.aq.own 4 (by omega)) hb).1;omega),h.jc⟩
theorem lI.field{width:Int}(h:lI W8 gm W width v ls){i:Nat}(hi:i<4){u:za}{ys:List Int}(hF:aS gm 5 W' (upd v i u) (bq ls i ys))(hg:W.grownBy W' (v i).ownBlock):
  W'.heap[gm]?=zh (zn (fH width v) 25 (0,0))/\lI W8 gm (W'.setCell ⟨gm,sK i,zi⟩ u) width (upd v i u) (bq ls i ys):=by
 have bN:=h.aq.others (i:=i) (by omega) hg (by decide) h.box;refine⟨bN,hF.set _ _,?_,(h.below.grown hg (cM (Nat.le_succ _) h.size) (λb hb=>by have:=(eN (h.aq.own i (by omega)) hb).1;omega)).setCell (ax _) _,h.jc⟩;have:=dx W' gm (sK i) _ _ u bN;rw[PX _ _ _ hi]at this;exact this
theorem lI.fieldAt{width:Int}(h:lI W8 gm W width v ls){i off:Nat}(hi:i<4)(ho:sK i=off){u:za}{ys:List Int}(hF:aS gm 5 W' (upd v i u) (bq ls i ys))(hg:W.grownBy W' (v i).ownBlock):
  W'.heap[gm]?=zh (zn (fH width v) 25 (0,0))/\lI W8 gm (W'.setCell ⟨gm,off,zi⟩ u) width (upd v i u) (bq ls i ys):=by
 subst ho;exact h.field hi hF hg
theorem lI.width{width:Int}(h:lI W8 gm W width v ls)(n:Int):lI W8 gm (W.setCell ⟨gm,1,zi⟩ (zp .i64 n)) n v ls:=by
 refine⟨h.aq.set _ _,?_,h.below.setCell (ax _) _,h.jc⟩;have:=dx W gm 1 _ _ (zp .i64 n) h.box;exact this
theorem lI.start:lI W8 W8.heap.size ((W8.alloc (zn bm 25)).alloc (zn #[] 3)) 0 (upd (λ_=>zw zi 0 0) 4 (zw (zh ⟨W8.heap.size+1,0,zi⟩) 0 0)) (bq (λ_=>[]) 4 []):=by
 have aP:zy W8.heap.size W8 (W8.alloc (zn bm 25)):=aC;have e:(W8.alloc (zn bm 25)).heap.size=W8.heap.size+1:=by simp
 have hF:=aS.new (aS.nil W8.heap.size 4 (W8.alloc (zn bm 25))) (by omega);rw[e]at hF;refine⟨hF,?_,aP.alloc aP.size _,rfl⟩;exact(Below.heap_alloc _ _ _ (by simp)).trans (aU W8 _)
theorem zi1{st:Nat->Nat->Nat}{an:Nat->Int×Int}(h:qd st an k):k<=(aF st an k 0).length:=by
 cases k with
 |zero=>exact bH _
 |succ k=>
  have h1:=h k (by omega);obtain⟨t,ht⟩:=Cj st an k (k+1) (by omega);rw[ht,a6];omega
theorem og.cells{W5:zx}{cap:Nat}(h:og d W5 gt W k (zw (zh ⟨g,0,zi⟩) k cap) v ls os n)(hn:k<n):∀W',zy W.heap.size W W'->∀x,x<k->∃gx cx,W'.cell? ⟨g,x,zi⟩=zh (zw (zh ⟨gx,0,zi⟩) 256 cx)/\∀c,c<256->W'.cell? ⟨gx,c,zi⟩=zh (zp .i64 ((aN d x c:Nat):Int)):=by
 intro W' hb x hx;have h':=h.on hb;have ho:=h'.aq.own (x+1) (by omega);rw[h'.lk x hx]at ho;obtain⟨gx,cx,e,_,_,hc⟩:=pC ho (by rw[P6];omega);rw[P6]at e;refine⟨gx,cx,?_,λc hc'=>?_⟩
 ·rw[h'.out.cellAt x (by omega)];simp[Ei,hx,e]
 ·rw[hc c (by rw[P6];exact hc'),zrh _ _ hc']
def zk(R:Nat->Nat->Nat)(hd:List Nat)(q:Nat):List Int:=(List.range q).flatMap λk=>hd.map λh=>(R k h:Int)
theorem ziy(R:Nat->Nat->Nat)(hd:List Nat)(q:Nat):zk R hd (q+1)=zk R hd q++hd.map λh=>(R q h:Int):=by simp[zk,List.range_succ]
theorem zo8(R:Nat->Nat->Nat)(hd:List Nat)(q:Nat):(zk R hd q).length=q*hd.length:=by
 induction q with
 |zero=>simp[zk]
 |succ q ih=>rw[ziy,a6,ih,jK,Eo]
def uy(R:Nat->Nat->Nat)(hd:List Nat)(q j:Nat):List Int:=zk R hd q++(hd.take j).map λh=>(R q h:Int)
theorem zix(R:Nat->Nat->Nat)(hd:List Nat)(q:Nat):uy R hd q 0=zk R hd q:=by simp[uy]
theorem zkp(R:Nat->Nat->Nat)(hd:List Nat)(q:Nat):uy R hd q hd.length=zk R hd (q+1):=by rw[ziy];simp[uy]
theorem ziw(R:Nat->Nat->Nat)(hd:List Nat)(q:Nat){j:Nat}(hj:j<hd.length):uy R hd q (j+1)=uy R hd q j++[(R q (hd.getD j 0):Int)]:=by
 unfold uy;rw[jA]
 congr 1
 rw[bI,bE hj,vD hj,rR]
 rfl
theorem zkq(R:Nat->Nat->Nat)(hd:List Nat){q j:Nat}(hq:q<=4000)(fF:hd.length<=256):(uy R hd q j).length<=1100000:=by
 unfold uy;rw[a6,zo8,jK,nr];have:=nt hq fF;omega
theorem T5(f:Nat->Int)(os:List Nat){q:Nat}(h:q<os.length):(os.take (q+1)).map f=(os.take q).map f++[f (os.getD q 0)]:=by
 rw[bI,bE h,vD h,rR]
 rfl
theorem sW.answers{ws:List Nat}(h:sW (ai d) (au d) os ws):(os.map λs=>d.tag.getD s 0)=(ws.map λs=>d.tag.getD s 0)/\(os.map λs=>d.fin.getD s 0)=(ws.map λs=>d.fin.getD s 0):=by
 induction h with
 |nil=>exact⟨rfl,rfl⟩
 |cons h1 _ ih=>
  have:=h1.an;unfold au at this;injection this with t1 t2
  exact⟨by rw[Be,Be,t1,ih.1],by rw[Be,Be,t2,ih.2]⟩
theorem aS.Po(h:aS gt n W v l)(hb:b<=gt)(o:Nat)(u:za):aS gt n (W.setCell ⟨b,o,zi⟩ u) v l:=h.keep λc hc _=>cS _ _ _ _ (by simp;omega)
def dJ(W:zx)(b:Nat)(u0 u1 u2 u3 u4:za):zx:=((((W.setCell ⟨b,0,zi⟩ u0).setCell ⟨b,1,zi⟩ u1).setCell ⟨b,2,zi⟩ u2).setCell ⟨b,3,zi⟩ u3).setCell ⟨b,4,zi⟩ u4
theorem Cc{B:Nat}(h:zy B w W)(hb:B<=b)(u0 u1 u2 u3 u4:za):zy B w (dJ W b u0 u1 u2 u3 u4):=
 ((((h.setCell (by exact hb) _).setCell (by exact hb) _).setCell (by exact hb) _).setCell (by exact hb) _).setCell (by exact hb) _
theorem aS.dJ(h:aS gt n W v l)(hb:b<=gt)(u0 u1 u2 u3 u4:za):aS gt n (dJ W b u0 u1 u2 u3 u4) v l:=
 ((((h.Po hb _ _).Po hb _ _).Po hb _ _).Po hb _ _).Po hb _ _
theorem aS.zyq{m:Nat}(h:aS gt n W v l)(hm:m<=n):aS gt m W v l:=
 ⟨λi hi=>h.own i (by omega),λi j hi hj=>h.apart i j (by omega) (by omega)⟩
end Go.Proofs.Ytfajjdgkiilhfaa
