import Derived.Test.YtfajjdgkiilhfaaGreatDoorC3
import Derived.Deep.Slices
import Derived.Deep.AppendLies
import Derived.Deep.RegionLaw
import Derived.OrdersIn
import Derived.RangeFuncCalls
namespace Go.Proofs.YtfajjdgkiilhfaaGreatDoor
open Proofs.Tryz
open Option renaming some->za,none->zc
open Go renaming Value->zb,World->ze,TypeId->zi
open Obj renaming cells->zd
open Value renaming int->zf,slice->zg
open RowKit renaming Below->zh
open Go.RowKit
attribute [local go_sem ↓] wp_at_zero wp_at_succ
section
variable {B gt n:Nat}{W W':ze}{v:Nat -> zb}{xs:List Int}{l:Nat -> List Int}
def eu(x:Int):zb:=zf .i64 x
def bX(B:Nat)(W:ze)(v:zb)(xs:List Int):Prop:=W.ownsRow B 3 1 v xs.length (xs.map eu)
def bG(l:Nat->List Int)(k:Nat)(x:List Int):Nat->List Int:=λj=>if j=k then x else l j
theorem jj(l:Nat->List Int)(k:Nat)(x:List Int):bG l k x k=x:=by simp[bG]
theorem eO(l:Nat->List Int){k j:Nat}(x:List Int)(h:j≠k):bG l k x j=l j:=by simp[bG,h]
theorem eF(S:Nat->zb)(v:zb){j k:Nat}(h:j≠k):upd S k v j=S j:=by simp[upd,h]
structure aI(gt n:Nat)(W:ze)(v:Nat->zb)(l:Nat->List Int):Prop where
 own:∀i,i<n->bX (gt+1) W (v i) (l i)
 apart:∀i j,i<n->j<n->i≠j->∀b,(v i).ownBlock=za b->(v j).ownBlock≠za b
theorem dG{v:zb}(h:bX B W v xs){b:Nat}(hb:v.ownBlock=za b):B<=b/\b<W.heap.size:=by
 rcases h.2 with ⟨rfl,_⟩|⟨g,cap,aZ,rfl,hg,hh,_⟩
 ·simp[Value.ownBlock]at hb
 ·simp[Value.ownBlock]at hb;subst hb;exact⟨hg,(lU.1 hh).1⟩
theorem nY{v:zb}(h:bX B W v xs)(hk:∀b,v.ownBlock=za b->W'.heap[b]?=W.heap[b]?):bX B W' v xs:=by
 refine⟨h.1,?_⟩;rcases h.2 with h2|⟨g,cap,aZ,rfl,hg,hh,r⟩
 ·exact .inl h2
 ·exact .inr ⟨g,cap,aZ,rfl,hg,by rw[hk g rfl];exact hh,r⟩
theorem aI.keep(h:aI gt n W v l)(hk:∀b,gt<b->b<W.heap.size->W'.heap[b]?=W.heap[b]?):aI gt n W' v l:=
 ⟨λi hi=>nY (h.own i hi) λb hb=>by have:=dG (h.own i hi) hb;exact hk b (by omega) this.2,h.apart⟩
theorem aI.below(h:aI gt n W v l)(hb:zh W.heap.size W W'):aI gt n W' v l:=h.keep λb _ hl=>hb.block b hl
theorem aI.set(h:aI gt n W v l)(o:Nat)(u:zb):aI gt n (W.setCell ⟨gt,o,zc⟩ u) v l:=h.keep λb hb _=>bh _ _ _ _ (by simp;omega)
theorem aI.append(h:aI gt n W v l){i:Nat}(hi:i<n){g cap:Nat}{x:Int}
  (own:W'.ownsRow (gt+1) 3 1 (zg (za ⟨g,0,zc⟩) ((l i).length+1) cap) ((l i).length+1) ((l i).map eu++[zf .i64 x])) (grow:W.grownBy W' (v i).ownBlock) (at':(v i).ownBlock=za g\/W.heap.size<=g):
  aI gt n W' (upd v i (zg (za ⟨g,0,zc⟩) ((l i).length+1) cap)) (bG l i (l i++[x])):=by
 refine⟨λj hj=>?_,λj k hj hk hne b hb=>?_⟩
 ·by_cases e:j=i
  ·subst e;rw[kI,jj];unfold bX;rw[aQ,sY];exact own
  ·rw[eF _ _ e,eO _ _ e];refine nY (h.own j hj) λb hb=>?_
   have hlt:=dG (h.own j hj) hb;exact grow.block b hlt.2 (λhc=>h.apart j i hj hi e b hb hc.symm)
 ·have key:∀j,j<n->j≠i->∀b,(v j).ownBlock=za b->b≠g:=by
   intro j2 iD e2 b2 aB nF;rcases at' with a2|a2
   ·rw[<-nF]at a2;exact h.apart j2 i iD hi e2 b2 aB a2
   ·have:=(dG (h.own j2 iD) aB).2;omega
  by_cases e:j=i
  ·subst e;rw[kI]at hb;rw[eF _ _ (Ne.symm hne)];simp[Value.ownBlock]at hb;subst hb;intro hc;exact key k hk (Ne.symm hne) _ hc rfl
  ·rw[eF _ _ e]at hb
   by_cases e2:k=i
   ·subst e2;rw[kI];intro hc;simp[Value.ownBlock]at hc;exact key j hj e b hb hc.symm
   ·rw[eF _ _ e2];exact h.apart j k hj hk hne b hb
theorem aI.nil(gt n:Nat)(W:ze):aI gt n W (λ_=>zg zc 0 0) (λ_=>[]):=
 ⟨λ_ _=>⟨rfl,.inl ⟨rfl,rfl⟩⟩,λ_ _ _ _ _ b hb=>by simp[Value.ownBlock]at hb⟩
theorem bX.at{v:zb}(h:bX B W v xs)(hl:xs.length<=9223372036854775807):dD B W v xs:=by
 rcases h.2 with ⟨rfl,h0⟩|⟨g,cap,aZ,rfl,hg,hh,hn,iz,hsz,ht⟩
 ·have:xs=[]:=qV h0;subst this;exact⟨zc,0,rfl,by simp,λh=>absurd h (by simp)⟩
 ·refine⟨za ⟨g,0,zc⟩,cap,rfl,hl,λ_=>⟨g,0,rfl,hg,(lU.1 hh).1,λi hi=>?_⟩⟩;have:W.ownsRow B 3 1 (zg (za ⟨g,0,zc⟩) xs.length cap) xs.length (xs.map eu):=h;rw[iH,this.cellAt i (by omega)];simp[eu,List.getD,hi]
end
section
variable {l zs os:List Nat}{m:Nat -> Nat -> Bool}{n k c:Nat}{d:aL}{ch:Nat -> Nat}
structure Bu(d:aL)(l:List Nat)(ch:Nat->Nat):Prop where
 mem:∀s∈l,ch s∈l
 al:∀s∈l,fg (bH d) (dI d) s (ch s)
 eq:∀s∈l,∀t∈l,fg (bH d) (dI d) s t->ch s=ch t
def FJ(l:List Nat)(m:Nat->Nat->Bool)(zs:List Nat)(n k:Nat):Prop:=
 zs.length=n/\∀i,i<k->∃q,q<l.length/\zs.getD (l.getD i 0) 0=l.getD q 0/\m i q=false/\∀j,j<q->m i j=true
theorem FJ.next(h:FJ l m zs n k)(hn:l.Nodup)(hk:k<l.length)(hl:l.getD k 0<n){q:Nat}(hq:q<l.length)(hm:m k q=false)(hj:∀j,j<q->m k j=true):FJ l m (zs.set (l.getD k 0) (l.getD q 0)) n (k+1):=by
 have h1:=h.1;refine⟨by simp[h.1],λi hi=>?_⟩
 by_cases e:i=k
 ·subst e;exact⟨q,hq,by rw[bJ,List.getElem?_set_self (by omega)];rfl,hm,hj⟩
 ·obtain⟨q',a1,a2,a3,a4⟩:=h.2 i (by omega);have hne:l.getD k 0≠l.getD i 0:=λe2=>e (Tp hn hk (by omega) e2).symm
  exact⟨q',a1,by rw[bJ,List.getElem?_set_ne hne,<-bJ];exact a2,a3,a4⟩
theorem FJ.zAW(h:FJ l m zs n l.length)(hm:∀x y,x<l.length->y<l.length->(m x y=false↔fg (bH d) (dI d) (l.getD x 0) (l.getD y 0))):Bu d l (λs=>zs.getD s 0):=by
 refine⟨λs hs=>?_,λs hs=>?_,λs hs t ht e=>?_⟩
 ·obtain⟨i,hi,rfl⟩:=Fk hs;obtain⟨q,a1,a2,_⟩:=h.2 i hi;show zs.getD (l.getD i 0) 0∈l;rw[a2];exact zV a1
 ·obtain⟨i,hi,rfl⟩:=Fk hs;obtain⟨q,a1,a2,a3,_⟩:=h.2 i hi;show fg _ _ _ (zs.getD (l.getD i 0) 0);rw[a2];exact(hm i q hi a1).1 a3
 ·obtain⟨i,hi,rfl⟩:=Fk hs;obtain⟨i',lJ,rfl⟩:=Fk ht;obtain⟨q,a1,a2,a3,a4⟩:=h.2 i hi;obtain⟨q',b1,b2,b3,b4⟩:=h.2 i' lJ;show zs.getD (l.getD i 0) 0=zs.getD (l.getD i' 0) 0;have hq:q=q':=by
   rcases Nat.lt_trichotomy q q' with k|k|k
   ·have h1:=b4 q k;rw[(hm i' q lJ a1).2 (e.symm.trans ((hm i q hi a1).1 a3))]at h1;cases h1
   ·exact k
   ·have h1:=a4 q' k;rw[(hm i q' hi b1).2 (e.trans ((hm i' q' lJ b1).1 b3))]at h1;cases h1
  rw[a2,b2,hq]
structure qv(d:aL)(l:List Nat)(ch:Nat->Nat)(os:List Nat)(k c:Nat):Prop where
 al:sQ (bH d) (dI d) os (eX (bH d) (dI d) k c)
 can:∀o∈os,o∈l/\ch o=o
 nd:os.Nodup
theorem Bu.zzK(h:Bu d l ch){s:Nat}(hs:s∈l):ch (ch s)=ch s:=(h.eq s hs (ch s) (h.mem s hs) (h.al s hs)).symm
theorem qv.start(h:Bu d l ch)(hR:uz d l):qv d l ch [ch 0] 0 0:=by
 have h0:(0:Nat)∈l:=by have:=zV hR.pos;rw[hR.head]at this;exact this
 refine⟨?_,λo ho=>?_,by simp⟩
 ·rw[Z6];exact .cons (h.al 0 h0).symm .nil
 ·simp at ho;subst ho;exact⟨h.mem 0 h0,h.zzK h0⟩
theorem zh5(h:Bu d l ch){os:List Nat}(hc:∀o∈os,o∈l/\ch o=o){x:Nat}(hx:x∈l)(ex:ch x=x):ld (dy os) (x:Int)=if nM (bH d) (dI d) os x<os.length then (nM (bH d) (dI d) os x:Int) else -1:=by
 have e:(dy os).findIdx (· == (x:Int))=nM (bH d) (dI d) os x:=by
  unfold dy nM;rw[List.findIdx_map];have hp:∀os':List Nat,(∀o∈os',o∈os)->os'.findIdx ((λy:Int=>y==(x:Int)) ∘ λx:Nat=>(x:Int))=os'.findIdx λo=>decide (fg (bH d) (dI d) o x):=by
   intro os' hs
   induction os' with
   |nil=>rfl
   |cons o os' ih=>
    rw[List.findIdx_cons,List.findIdx_cons,ih (λy hy=>hs y (by simp[hy]))];have ho:=hc o (hs o (by simp));have:((λy:Int=>y==(x:Int)) ∘ λx:Nat=>(x:Int)) o=decide (fg (bH d) (dI d) o x):=by
     by_cases al:fg (bH d) (dI d) o x
     ·have e:=h.eq o ho.1 x hx al;rw[ho.2,ex]at e;subst e;simp[al]
     ·have:o≠x:=λe=>al (e ▸ fg.refl _ _ _)
      simp[al];omega
    rw[this]
  exact hp os λ_ h=>h
 unfold ld;rw[e,gV]
theorem qv.to(h:Bu d l ch)(hR:uz d l){os:List Nat}{k c:Nat}(hO:qv d l ch os k c)(hk:k<os.length)(hc:c<256):bH d (os.getD k 0) c∈l/\ch (bH d (os.getD k 0) c)∈l/\ch (ch (bH d (os.getD k 0) c))=ch (bH d (os.getD k 0) c)/\fg (bH d) (dI d) (ch (bH d (os.getD k 0) c)) (bH d ((eX (bH d) (dI d) k c).getD k 0) c):=by
 have h1:=hR.cl _ (hO.can _ (zV hk)).1 c hc;exact⟨h1,h.mem _ h1,h.zzK h1,(h.al _ h1).symm.trans ((hO.al.at k hk).step hc)⟩
theorem qv.old(h:Bu d l ch)(hR:uz d l){os:List Nat}{k c:Nat}(hO:qv d l ch os k c)(hk:k<os.length)(hc:c<256)(hp:¬ld (dy os) (ch (bH d (os.getD k 0) c):Int)<0):
  qv d l ch os k (c+1)/\ld (dy os) (ch (bH d (os.getD k 0) c):Int)=(Fx (bH d) (dI d) k c:Int):=by
 obtain⟨h1,h2,h3,h4⟩:=hO.to h hR hk hc;have du:=zh5 h hO.can h2 h3;have hi:=hO.al.idx h4;have hlt:nM (bH d) (dI d) os (ch (bH d (os.getD k 0) c))<os.length:=by
  by_cases e:nM (bH d) (dI d) os (ch (bH d (os.getD k 0) c))<os.length
  ·exact e
  ·rw[ab e]at du;omega
 rw[af hlt]at du;refine⟨⟨?_,hO.can,hO.nd⟩,?_⟩
 ·rw[La];unfold vH;rw[af (by rw[<-hi,<-hO.al.length];exact hlt)];exact hO.al
 ·rw[du,zgy,hi]
theorem qv.new(h:Bu d l ch)(hR:uz d l){os:List Nat}{k c:Nat}(hO:qv d l ch os k c)(hk:k<os.length)(hc:c<256)(hp:ld (dy os) (ch (bH d (os.getD k 0) c):Int)<0):
  qv d l ch (os++[ch (bH d (os.getD k 0) c)]) k (c+1)/\ld (dy (os++[ch (bH d (os.getD k 0) c)])) (ch (bH d (os.getD k 0) c):Int)=(Fx (bH d) (dI d) k c:Int):=by
 obtain⟨h1,h2,h3,h4⟩:=hO.to h hR hk hc;have du:=zh5 h hO.can h2 h3;have hi:=hO.al.idx h4;have hlt:¬nM (bH d) (dI d) os (ch (bH d (os.getD k 0) c))<os.length:=by
  intro e;rw[af e]at du;omega
 have zyB:∀o∈os++[ch (bH d (os.getD k 0) c)],o∈l/\ch o=o:=λo ho=>by
  rcases gH.1 ho with k1|k1
  ·exact hO.can o k1
  ·simp at k1;subst k1;exact⟨h2,h3⟩
 have Rm:sQ (bH d) (dI d) (os++[ch (bH d (os.getD k 0) c)]) (eX (bH d) (dI d) k (c+1)):=by
  rw[La];unfold vH;rw[ab (by rw[<-hi,<-hO.al.length];exact hlt)];exact hO.al.snoc h4
 have pi:ch (bH d (os.getD k 0) c)∉os:=λhm=>hlt (zqA.2 ⟨_,hm,fg.refl _ _ _⟩)
 refine⟨⟨Rm,zyB,?_⟩,?_⟩
 ·rw[List.nodup_append];exact⟨hO.nd,by simp,λa ha b hb=>by simp at hb;subst hb;exact λe=>pi (e ▸ ha)⟩
 ·rw[zh5 h zyB h2 h3,znL hlt,af (fg.refl _ _ _),af (by simp),zgy,<-hi];have:=zmT (bH d) (dI d) os (ch (bH d (os.getD k 0) c));omega
theorem qv.row(hO:qv d l ch os k c)(hc:c=256):qv d l ch os (k+1) 0:=by
 subst hc;exact⟨by rw[Tx];exact hO.al,hO.can,hO.nd⟩
theorem qv.len(hO:qv d l ch os k c)(hR:uz d l):os.length<=d.tag.length:=
 Fe _ os hO.nd λx hx=>hR.lt x (hO.can x hx).1
end
section
variable {B gt n K c j:Nat}{W W':ze}{v:Nat -> zb}{xs:List Int}{l:Nat -> List Int}{R:Nat -> Nat -> Nat}
theorem zn3{w:ze}{x:zb}{t:zi}(h:w.heap[B]?=za (zd #[x] t (0,0))):∀j u,[x][j]?=za u->w.cell? ((⟨B,0,zc⟩:Addr).add j)=za u:=World.news_of_block h
theorem dQ{v:zb}(h:bX B W v xs):∃r:Option Addr×Nat,v=.slice r.1 xs.length r.2:=by
 rcases h.2 with ⟨rfl,h0⟩|⟨g,cap,aZ,rfl,_⟩
 ·exact⟨(zc,0),by rw[h0]⟩
 ·exact⟨(za ⟨g,0,zc⟩,cap),rfl⟩
theorem C7{v:zb}(h:bX B W v xs)(hne:0<xs.length):∃g cap,v=zg (za ⟨g,0,zc⟩) xs.length cap/\B<=g/\g<W.heap.size/\∀j,j<xs.length->W.cell? ⟨g,j,zc⟩=za (zf .i64 (xs.getD j 0)):=by
 have h':W.ownsRow B 3 1 v xs.length (xs.map eu):=h;rcases h.2 with ⟨rfl,h0⟩|⟨g,cap,aZ,rfl,hg,hh,_⟩
 ·omega
 ·refine⟨g,cap,rfl,hg,(lU.1 hh).1,λj hj=>?_⟩;rw[h'.cellAt j (by omega)];simp[eu,List.getD,hj]
theorem wG{v:zb}(h:bX B W v xs){b:Nat}(hb:v.ownBlock=za b):∃aZ:Array zb,W.heap[b]?=za (zd aZ 3 (0,0)):=by
 rcases h.2 with ⟨rfl,_⟩|⟨g,cap,aZ,rfl,hg,hh,_⟩
 ·simp[Value.ownBlock]at hb
 ·simp[Value.ownBlock]at hb;subst hb;exact⟨aZ,hh⟩
theorem aI.AX(h:aI gt n W v l)(hk:∀i,i<n->∀b,(v i).ownBlock=za b->W'.heap[b]?=W.heap[b]?):aI gt n W' v l:=
 ⟨λi hi=>nY (h.own i hi) (hk i hi),h.apart⟩
theorem aI.other(h:aI gt n W v l){g:Nat}{cs:Array zb}{e:zi}(hg:W.heap[g]?=za (zd cs e (0,0)))(he:e≠3)(mR:W.grownBy W' (za g)):aI gt n W' v l:=
 h.AX λi hi b hb=>by
  obtain⟨aZ,hc⟩:=wG (h.own i hi) hb;exact mR.block b (lU.1 hc).1 (λe2=>by cases e2;rw[hg]at hc;exact he (zR hc))
theorem aI.others(h:aI gt n W v l){i:Nat}(hi:i<n)(mR:W.grownBy W' (v i).ownBlock){b:Nat}{cs:Array zb}{e:zi}(he:e≠3)(hb:W.heap[b]?=za (zd cs e (0,0))):W'.heap[b]?=za (zd cs e (0,0)):=
 (mR.block b (lU.1 hb).1 (λe2=>by
  obtain⟨aZ,hc⟩:=wG (h.own i hi) e2.symm;rw[hb]at hc;exact he (zR hc))).trans hb
theorem aI.new(h:aI gt n W v l)(hB:gt+1<=W.heap.size):aI gt (n+1) (W.alloc (zd #[] 3)) (upd v n (zg (za ⟨W.heap.size,0,zc⟩) 0 0)) (bG l n []):=by
 have hb:zh W.heap.size W (W.alloc (zd #[] 3)):=ax;have h':=h.below hb;refine⟨λi hi=>?_,λi j hi hj hne b M4=>?_⟩
 ·by_cases e:i=n
  ·subst e;rw[kI,jj];exact zhZ (KP W 3) hB
  ·rw[eF _ _ e,eO _ _ e];exact h'.own i (by omega)
 ·by_cases e:i=n
  ·subst e;rw[kI]at M4;rw[eF _ _ (Ne.symm hne)];simp[Value.ownBlock]at M4;intro hc;have:=(dG (h.own j (by omega)) hc).2;omega
  ·rw[eF _ _ e]at M4
   by_cases e2:j=n
   ·subst e2;rw[kI];have:=(dG (h.own i (by omega)) M4).2;simp[Value.ownBlock];omega
   ·rw[eF _ _ e2];exact h.apart i j (by omega) (by omega) hne b M4
theorem aI.congr{v':Nat->zb}{l':Nat->List Int}(h:aI gt n W v l)(hv:∀i,i<n->v i=v' i)(hl:∀i,i<n->l i=l' i):aI gt n W v' l':=
 ⟨λi hi=>by rw[<-hv i hi,<-hl i hi];exact h.own i hi,λi j hi hj hne b hb=>by rw[<-hv j hj];rw[<-hv i hi]at hb;exact h.apart i j hi hj hne b hb⟩
theorem kJ{ops:Array Oper}{rest:List Oper}{o:Oper}{a:Act}{Q:Exit->Act->ze->Prop}(S:aI gt n W v l)(H:Nat)(hH:W.heap.size=H)(fQ:o.guard=zc)(s x:Operand)
  (ho:o.op=.call {callee:=.builtin .append,args:=#[s,x],argTypes:=#[23,23]}) (i:Nat) (hi:i<n) (xs:List Int) (tR:l i=xs) (m:Nat) (hn:xs.length=m) (hs:a.eval s=v i) (y:Int) (hx:a.eval x=zg (za ⟨H,0,zc⟩) 1 1) (hl:m<=2000000) (hB:gt+1<=W.heap.size)
  (h:∀g cap W',aI gt n W' (upd v i (zg (za ⟨g,0,zc⟩) (m+1) cap)) (bG l i (xs++[y]))->W.grownBy W' (v i).ownBlock->wpList prog ops Q rest (a.put o.dst (zg (za ⟨g,0,zc⟩) (m+1) cap)) W'):
  wpList prog ops Q (o::rest) a (W.alloc (zd #[zf .i64 y] 3)):=by
 subst hH;subst hn;subst tR;obtain⟨i0,eC,da,dt,cR⟩:=info_parts Tryz.pX;have hb:zh W.heap.size W (W.alloc (zd #[zf .i64 y] 3)):=ax;have own:(W.alloc (zd #[zf .i64 y] 3)).ownsRow (gt+1) 3 1 (v i) (l i).length ((l i).map eu):=(S.below hb).own i hi;refine wpList_append_lies _ fQ s x 23 ho (gt+1) 3 i0 _ 1 8 underlying23 eC da dt cR rfl (by omega) (v i) (l i).length ((l i).map eu) hs own ⟨W.heap.size,0,zc⟩ 1 1 [zf .i64 y] hx rfl (zn3 (aJ _ _)) (by intro u hu;simp at hu;subst hu;rfl) (by omega) (by unfold maxLen;omega) (by omega) (by simp;omega) (W.heap.size+1) (by simp) ?_;intro g cap W' jG jD at' _;refine h g cap W' (aI.append (S.below hb) hi jG jD (at'.imp id (λh=>by simp;omega))) ?_;exact⟨jD.os,jD.tape,jD.output,cY hb.size jD.size,λk hk hne=>(jD.block k (by have:=hb.size;omega) hne).trans (hb.block k hk)⟩
theorem zoH(K:Nat)(R:Nat->Nat->Nat)(h c:Nat):lC (K+1) R h c=(lC K R h c&&(R K h==R K c)):=by simp[lC,List.range_succ]
theorem O8(hj:j<(aY K R c).length):lC K R ((aY K R c).getD j 0) c=true↔fN K R c=j:=by
 have hg:(aY K R c).getD j 0=(aY K R c)[j]:=by rw[bJ,bE hj];rfl
 constructor
 ·intro h;unfold fN;rw[List.findIdx_eq hj];refine⟨by rw[<-hg];exact h,λi hi=>?_⟩;cases e:lC K R (aY K R c)[i] c
  ·rfl
  ·have hgi:(aY K R c).getD i 0=(aY K R c)[i]:=by rw[bJ,bE (by omega)];rfl
   have:i=j:=ZQ K R c i j (by omega) hj (by
    rw[OJ]at *;intro k hk;rw[hgi];exact(e k hk).trans (h k hk).symm)
   omega
 ·intro h;have h1:fN K R c<(aY K R c).length:=by omega
  have:=List.findIdx_getElem (w:=h1);unfold fN at h;rw[hg]
  simpa [h]using this
def vJ(K:Nat)(R:Nat->Nat->Nat)(c j:Nat):Int:=if fN K R c<j then (fN K R c:Int) else -1
theorem zsn(hj:j<(aY K R c).length)(h:lC K R ((aY K R c).getD j 0) c=true):vJ K R c (j+1)=j:=by
 have:=(O8 hj).1 h;unfold vJ;rw[af (by omega),this]
theorem zt2(hj:j<(aY K R c).length)(h:lC K R ((aY K R c).getD j 0) c=false):vJ K R c (j+1)=vJ K R c j:=by
 have:fN K R c≠j:=λe=>by have:=(O8 hj).2 e;rw[h]at this;cases this
 unfold vJ
 by_cases e:fN K R c<j
 ·rw[af e,af (by omega)]
 ·rw[ab e,ab (by omega)]
end
section
variable {lo rC k gt n B g cap:Nat}{w W5 W W':ze}{v:Nat -> zb}{d:aL}{rv:zb}{ls:Nat -> List Int}{os:List Nat}
theorem dD.low{v:zb}{xs:List Int}(h:dD lo w v xs)(hl:rC<=lo):dD rC w v xs:=by
 obtain⟨a,c,h1,h2,h3⟩:=h;exact⟨a,c,h1,h2,λhx=>by obtain⟨b,o,e1,e2,e3⟩:=h3 hx;exact⟨b,o,e1,by omega,e3⟩⟩
theorem dP.low{cv nv tv ev:zb}(h:dP lo w cv nv tv ev d)(hl:rC<=lo):dP rC w cv nv tv ev d:=⟨h.ai.low hl,h.next.low hl,h.tag.low hl,h.fin.low hl⟩
def iF(width:Int)(v:Nat->zb):Array zb:=#[v 0,zf .i64 width,v 1,v 2,v 3]
def bI:Array zb:=#[zg zc 0 0,zf .i64 0,zg zc 0 0,zg zc 0 0,zg zc 0 0]
def Uj(w:ze)(width:Int)(l:Nat->List Int)(e:Ending)(w':ze):Prop:=∃(gt:Nat) (v:Nat->zb),e=.returned (.agg (iF width v))/\w.heap.size<=gt/\aI gt 4 w' v l/\zh w.heap.size w w'
noncomputable def ke (d:aL):Nat->Nat->Nat:=Fx (bH d) (dI d)
noncomputable def sE (d:aL) (K:Nat):Nat->List Int
 |0=>(List.range 256).map λc=>(fN K (ke d) c:Int)
 |1=>(List.range K).flatMap λk=>(aY K (ke d) 256).map λh=>(ke d k h:Int)
 |2=>(eX (bH d) (dI d) K 0).map λs=>d.tag.getD s 0
 |_=>(eX (bH d) (dI d) K 0).map λs=>d.fin.getD s 0
def zxT(w:ze)(d:aL)(e:Ending)(w':ze):Prop:=∃K,vh (bH d) (dI d) K/\(eX (bH d) (dI d) K 0).length=K/\Uj w (aY K (ke d) 256).length (sE d K) e w'
theorem zrF(hf:eI d){s c:Nat}(hs:s<d.tag.length)(hc:c<256):Pn d (s:Int) c=(bH d s c:Int):=by
 have h1:=hf.yX hc;have h2:=hf.nx hs h1.2;have hw:=hf.wd.1;unfold Pn ztI Dj;rw[h1.1,hw];have e:((s:Int)*(bn d:Int)+(kw d c:Int)).toNat=s*bn d+kw d c:=by
  have:(s:Int)*(bn d:Int)+(kw d c:Int)=((s*bn d+kw d c:Nat):Int):=by simp
  rw[this,s7]
 rw[e];exact h2.1
theorem zsN(cv nv tv ev:zb)(d:aL)(s c t:Nat)(ci:Int)(JS:ci=c)(w:ze)(hs:dP lo w cv nv tv ev d)(hf:eI d)(h1:s<d.tag.length)(hc:c<256)(ht:bH d s c=t):
  Calls prog 75 #[.agg #[cv,zf .i64 d.width,nv,tv,ev],zf .i64 (s:Int),zf .i64 ci] w λe w'=>e=.returned (zf .i64 (t:Int))/\zh w.heap.size w w':=by
 subst JS;refine(zum cv nv tv ev d (s:Int) c w hs hf (by omega) (by omega) hc).mono ?_;rintro e w' ⟨rfl,hb⟩;rw[zrF hf h1 hc,ht];exact⟨rfl,hb⟩
noncomputable def wC (d:aL) (x c:Nat):List Int:=(List.range c).map λc=>(ke d x c:Int)
theorem OR(d:aL)(x c:Nat):(wC d x c).length=c:=by simp[wC]
theorem zlO(d:aL)(x c:Nat):wC d x (c+1)=wC d x c++[(ke d x c:Int)]:=by simp[wC,List.range_succ]
theorem ztb(d:aL)(x:Nat){c n:Nat}(h:c<n):(wC d x n).getD c 0=(ke d x c:Int):=by simp[wC,List.getD,h]
def Dl(v:Nat->zb)(k:Nat):List zb:=(List.range k).map λx=>v (x+1)
theorem zpo(v:Nat->zb)(k:Nat):Dl v (k+1)=Dl v k++[v (k+1)]:=by simp[Dl,List.range_succ]
theorem zic{v':Nat->zb}(h:∀x,x<k->v (x+1)=v' (x+1)):Dl v k=Dl v' k:=Ak λx hx=>h x (by simpa using hx)
structure ow(d:aL)(W5:ze)(gt:Nat)(W:ze)(k:Nat)(rv:zb)(v:Nat->zb)(ls:Nat->List Int)(os:List Nat)(n:Nat):Prop where
 au:aI gt n W v ls
 l0:ls 0=dy os
 lk:∀x,x<k->ls (x+1)=wC d x 256
 out:W.ownsRow (gt+1) 23 1 rv k (Dl v k)
 below:zh (gt+1) W5 W
 gz:W5.heap.size=gt+1
theorem ow.size(h:ow d W5 gt W k rv v ls os n):gt+1<=W.heap.size:=by have:=h.below.size;rw[h.gz]at this;exact this
theorem ow.on(h:ow d W5 gt W k rv v ls os n)(hb:zh W.heap.size W W'):ow d W5 gt W' k rv v ls os n:=
 ⟨h.au.below hb,h.l0,h.lk,vb h.out hb,h.below.trans (hb.mono h.size),h.gz⟩
theorem zpk{l:Nat->List Int}(h:aI gt n W v l){i:Nat}(hi:i<n)(mR:W.grownBy W' (v i).ownBlock){B:Nat}{rv:zb}{k:Nat}{xs:List zb}(ho:W.ownsRow B 23 1 rv k xs):W'.ownsRow B 23 1 rv k xs:=
 zlG ho λ_ _ e=>h.others hi mR (by decide) e
theorem ow.new(h:ow d W5 gt W k rv v ls os n)(hn:k<n):ow d W5 gt (W.alloc (zd #[] 3)) k rv (upd v n (zg (za ⟨W.heap.size,0,zc⟩) 0 0)) (bG ls n []) os (n+1):=by
 have hb:zh W.heap.size W (W.alloc (zd #[] 3)):=ax;refine⟨h.au.new h.size,by rw[eO _ _ (by omega)];exact h.l0,λx hx=>by rw[eO _ _ (by omega)];exact h.lk x hx,?_,h.below.trans (hb.mono h.size),h.gz⟩;rw[zic (v':=v) (λx hx=>eF _ _ (by omega))];exact vb h.out hb
theorem ow.grow(h:ow d W5 gt W k rv v ls os n){i:Nat}(hi:i<n)(hik:i=0\/k<i){u:zb}{ys:List Int}(hF:aI gt n W' (upd v i u) (bG ls i ys))(hg:W.grownBy W' (v i).ownBlock){os':List Nat}(ho:bG ls i ys 0=dy os'):ow d W5 gt W' k rv (upd v i u) (bG ls i ys) os' n:=by
 refine⟨hF,ho,λx hx=>by rw[eO _ _ (by omega)];exact h.lk x hx,?_,h.below.grown hg h.size (λb hb=>(dG (h.au.own i hi) hb).1),h.gz⟩;rw[zic (v':=v) (λx hx=>eF _ _ (by omega))];exact zpk h.au hi hg h.out
theorem zpl{xs:List zb}(h:W.ownsRow B 23 1 (zg (za ⟨g,0,zc⟩) k cap) k xs):∃aZ:Array zb,W.heap[g]?=za (zd aZ 23 (0,0)):=by
 rcases h.2 with ⟨h0,_⟩|⟨g',cap',aZ,hv,_,hh,_⟩
 ·cases h0
 ·cases hv;exact⟨aZ,hh⟩
theorem ow.more{rv':zb}(h:ow d W5 gt W k (zg (za ⟨g,0,zc⟩) k cap) v ls os (k+2))(hl:ls (k+1)=wC d k 256)(hg:W.grownBy W' (za g))(ho:W'.ownsRow (gt+1) 23 1 rv' (k+1) (Dl v k++[v (k+1)])):ow d W5 gt W' (k+1) rv' v ls os (k+2):=by
 obtain⟨aZ,hc⟩:=zpl h.out;refine⟨h.au.other hc (by decide) hg,h.l0,λx hx=>?_,by rw[zpo];exact ho,h.below.grown hg h.size (λb hb=>by cases hb;exact(qd h.out).1),h.gz⟩
 by_cases e:x=k
 ·subst e;exact hl
 ·exact h.lk x (by omega)
theorem zuB{x:Int}(h:W.heap[g]?=za (zd #[zf .i64 x] 3 (0,0)))(hB:B<=g):bX B W (zg (za ⟨g,0,zc⟩) 1 1) [x]:=
 ⟨rfl,.inr ⟨g,1,_,rfl,hB,h,aq _,by unfold maxLen;omega,rfl,rfl⟩⟩
theorem ow.start{x:Nat}(ht:W5.heap.size=gt+1):ow d W5 gt ((W5.alloc (zd #[zf .i64 (x:Int)] 3)).alloc (zd #[] 23)) 0 (zg (za ⟨W5.heap.size+1,0,zc⟩) 0 0) (λ_=>zg (za ⟨W5.heap.size,0,zc⟩) 1 1) (λ_=>[(x:Int)]) [x] 1:=by
 have aO:zh W5.heap.size W5 (W5.alloc (zd #[zf .i64 (x:Int)] 3)):=ax;have aB:zh W5.heap.size W5 ((W5.alloc (zd #[zf .i64 (x:Int)] 3)).alloc (zd #[] 23)):=aO.alloc aO.size _;have h1:((W5.alloc (zd #[zf .i64 (x:Int)] 3)).alloc (zd #[] 23)).heap[W5.heap.size]?=za (zd #[zf .i64 (x:Int)] 3 (0,0)):=
  (Below.heap_alloc _ _ _ (by simp)).trans (aJ W5 _)
 have h2:=KP (W5.alloc (zd #[zf .i64 (x:Int)] 3)) 23;refine⟨⟨λi hi=>zuB h1 (by omega),λi j hi hj hne=>by omega⟩,rfl,λx hx=>by omega,?_,by rw[<-ht];exact aB,ht⟩;have e:(W5.alloc (zd #[zf .i64 (x:Int)] 3)).heap.size=W5.heap.size+1:=by simp
 rw[e]at h2;exact zhZ h2 (by omega)
end
section
variable {W w W8 W':ze}{gt n g gm k b:Nat}{v:Nat -> zb}{l ls:Nat -> List Int}{d:aL}{os:List Nat}
theorem Tryz.zCn:(prog.info? 23).map (λi=>(i.zero,i.size,i.bytes))=za (za (zg zc 0 0),1,24):=by kernel_rfl
def zxX(ats:Array zi)(ty:zi)(args:Array zb):Sem zb:=Builtin.append_ ats ty args
theorem Zz(ty:zi)(args:Array zb):Builtin.append_ #[23,23] ty args=zxX #[23,23] ty args:=rfl
theorem zmp(S:aI gt n W v l)(i:Nat)(hi:i<n)(xs:List Int)(tR:l i=xs)(m:Nat)(hn:xs.length=m)(vi:zb)(hv:v i=vi)(y:Int)(hl:m<=2000000)(hB:gt+1<=W.heap.size)(ty:zi):
  ∃g cap W',(zxX #[23,23] ty #[vi,zg (za ⟨W.heap.size,0,zc⟩) 1 1]).run prog ((W.alloc (zd #[zf .i64 y] 3)).drew)=.ok (zg (za ⟨g,0,zc⟩) (m+1) cap) W'/\aI gt n W' (upd v i (zg (za ⟨g,0,zc⟩) (m+1) cap)) (bG l i (xs++[y]))/\W.grownBy W' (v i).ownBlock:=by
 subst hn;subst tR;subst hv;obtain⟨i0,eC,da,dt,cR⟩:=info_parts Tryz.pX;have hb:zh W.heap.size W ((W.alloc (zd #[zf .i64 y] 3)).drew):=(ax).drew;have own:((W.alloc (zd #[zf .i64 y] 3)).drew).ownsRow (gt+1) 3 1 (v i) (l i).length ((l i).map eu):=(S.below hb).own i hi;have hsz:((W.alloc (zd #[zf .i64 y] 3)).drew).heap.size=W.heap.size+1:=by simp
 obtain⟨g,cap,W',hr,jG,jD,at',_⟩:=run_append_lies (P:=prog) ((W.alloc (zd #[zf .i64 y] 3)).drew) 23 ty (gt+1) 3 i0 _ 1 8 underlying23 eC da dt cR rfl (by omega) (v i) (l i).length ((l i).map eu) own ⟨W.heap.size,0,zc⟩ 1 1 [zf .i64 y] rfl (zn3 (sL (aJ _ _))) (by intro u hu;simp at hu;subst hu;rfl) (by omega) (by unfold maxLen;omega) (by omega) (by omega) (W.heap.size+1) hsz;refine⟨g,cap,W',hr,aI.append (S.below hb) hi jG jD (at'.imp id (λh=>by omega)),?_⟩;exact⟨jD.os.trans hb.os,jD.tape.trans hb.tape,jD.output.trans hb.output,cY hb.size jD.size,λk hk hne=>(jD.block k (by have:=hb.size;omega) hne).trans (hb.block k hk)⟩
def tU(i:Nat):Nat:=if i=0 then 0 else i+1
theorem OQ(width:Int)(v:Nat->zb)(i:Nat)(hi:i<4)(u:zb):(iF width v).setIfInBounds (tU i) u=iF width (upd v i u):=by
 match i,hi with
 |0,_=>rfl
 |1,_=>rfl
 |2,_=>rfl
 |3,_=>rfl
theorem zrn(width:Int)(v:Nat->zb)(u:zb):iF width (upd v 4 u)=iF width v:=rfl
theorem cE{width:Int}{t:zi}(h:w.heap[g]?=za (zd (iF width v) t (0,0))):w.cell? ⟨g,0,zc⟩=za (v 0)/\w.cell? ⟨g,1,zc⟩=za (zf .i64 width)/\w.cell? ⟨g,2,zc⟩=za (v 1)/\w.cell? ⟨g,3,zc⟩=za (v 2)/\w.cell? ⟨g,4,zc⟩=za (v 3):=dM h
structure mH(W8:ze)(gm:Nat)(W:ze)(width:Int)(v:Nat->zb)(ls:Nat->List Int):Prop where
 au:aI gm 5 W v ls
 box:W.heap[gm]?=za (zd (iF width v) 25 (0,0))
 below:zh gm W8 W
 gz:W8.heap.size=gm
theorem mH.size{width:Int}(h:mH W8 gm W width v ls):gm+1<=W.heap.size:=ay h.box
theorem mH.on{width:Int}(h:mH W8 gm W width v ls)(hb:zh W.heap.size W W'):mH W8 gm W' width v ls:=
 ⟨h.au.below hb,aT h.box hb,h.below.trans (hb.mono (cY (Nat.le_succ _) h.size)),h.gz⟩
theorem mH.heads{width:Int}(h:mH W8 gm W width v ls){u:zb}{ys:List Int}(hF:aI gm 5 W' (upd v 4 u) (bG ls 4 ys))(hg:W.grownBy W' (v 4).ownBlock):mH W8 gm W' width (upd v 4 u) (bG ls 4 ys):=
 ⟨hF,by rw[zrn];exact h.au.others (i:=4) (by omega) hg (by decide) h.box,h.below.grown hg (cY (Nat.le_succ _) h.size) (λb hb=>by have:=(dG (h.au.own 4 (by omega)) hb).1;omega),h.gz⟩
theorem mH.field{width:Int}(h:mH W8 gm W width v ls){i:Nat}(hi:i<4){u:zb}{ys:List Int}(hF:aI gm 5 W' (upd v i u) (bG ls i ys))(hg:W.grownBy W' (v i).ownBlock):
  W'.heap[gm]?=za (zd (iF width v) 25 (0,0))/\mH W8 gm (W'.setCell ⟨gm,tU i,zc⟩ u) width (upd v i u) (bG ls i ys):=by
 have dk:=h.au.others (i:=i) (by omega) hg (by decide) h.box;refine⟨dk,hF.set _ _,?_,(h.below.grown hg (cY (Nat.le_succ _) h.size) (λb hb=>by have:=(dG (h.au.own i (by omega)) hb).1;omega)).setCell (aq _) _,h.gz⟩;have:=cJ W' gm (tU i) _ _ u dk;rw[OQ _ _ _ hi]at this;exact this
theorem mH.fieldAt{width:Int}(h:mH W8 gm W width v ls){i off:Nat}(hi:i<4)(ho:tU i=off){u:zb}{ys:List Int}(hF:aI gm 5 W' (upd v i u) (bG ls i ys))(hg:W.grownBy W' (v i).ownBlock):
  W'.heap[gm]?=za (zd (iF width v) 25 (0,0))/\mH W8 gm (W'.setCell ⟨gm,off,zc⟩ u) width (upd v i u) (bG ls i ys):=by
 subst ho;exact h.field hi hF hg
theorem mH.width{width:Int}(h:mH W8 gm W width v ls)(n:Int):mH W8 gm (W.setCell ⟨gm,1,zc⟩ (zf .i64 n)) n v ls:=by
 refine⟨h.au.set _ _,?_,h.below.setCell (aq _) _,h.gz⟩;have:=cJ W gm 1 _ _ (zf .i64 n) h.box;exact this
theorem mH.start:mH W8 W8.heap.size ((W8.alloc (zd bI 25)).alloc (zd #[] 3)) 0 (upd (λ_=>zg zc 0 0) 4 (zg (za ⟨W8.heap.size+1,0,zc⟩) 0 0)) (bG (λ_=>[]) 4 []):=by
 have aO:zh W8.heap.size W8 (W8.alloc (zd bI 25)):=ax;have e:(W8.alloc (zd bI 25)).heap.size=W8.heap.size+1:=by simp
 have hF:=aI.new (aI.nil W8.heap.size 4 (W8.alloc (zd bI 25))) (by omega);rw[e]at hF;refine⟨hF,?_,aO.alloc aO.size _,rfl⟩;exact(Below.heap_alloc _ _ _ (by simp)).trans (aJ W8 _)
theorem zjN{st:Nat->Nat->Nat}{an:Nat->Int×Int}(h:vh st an k):k<=(eX st an k 0).length:=by
 cases k with
 |zero=>exact dz _
 |succ k=>
  have h1:=h k (by omega);obtain⟨t,ht⟩:=Tw st an k (k+1) (by omega);rw[ht,aQ];omega
theorem ow.cells{W5:ze}{cap:Nat}(h:ow d W5 gt W k (zg (za ⟨g,0,zc⟩) k cap) v ls os n)(hn:k<n):∀W',zh W.heap.size W W'->∀x,x<k->∃gx cx,W'.cell? ⟨g,x,zc⟩=za (zg (za ⟨gx,0,zc⟩) 256 cx)/\∀c,c<256->W'.cell? ⟨gx,c,zc⟩=za (zf .i64 ((ke d x c:Nat):Int)):=by
 intro W' hb x hx;have h':=h.on hb;have ho:=h'.au.own (x+1) (by omega);rw[h'.lk x hx]at ho;obtain⟨gx,cx,e,_,_,hc⟩:=C7 ho (by rw[OR];omega);rw[OR]at e;refine⟨gx,cx,?_,λc hc'=>?_⟩
 ·rw[h'.out.cellAt x (by omega)];simp[Dl,hx,e]
 ·rw[hc c (by rw[OR];exact hc'),ztb _ _ hc']
def Bg(R:Nat->Nat->Nat)(hd:List Nat)(q:Nat):List Int:=(List.range q).flatMap λk=>hd.map λh=>(R k h:Int)
theorem zjh(R:Nat->Nat->Nat)(hd:List Nat)(q:Nat):Bg R hd (q+1)=Bg R hd q++hd.map λh=>(R q h:Int):=by simp[Bg,List.range_succ]
theorem zqU(R:Nat->Nat->Nat)(hd:List Nat)(q:Nat):(Bg R hd q).length=q*hd.length:=by
 induction q with
 |zero=>simp[Bg]
 |succ q ih=>rw[zjh,aQ,ih,lX,Bp]
def yt(R:Nat->Nat->Nat)(hd:List Nat)(q j:Nat):List Int:=Bg R hd q++(hd.take j).map λh=>(R q h:Int)
theorem zpd(R:Nat->Nat->Nat)(hd:List Nat)(q:Nat):yt R hd q 0=Bg R hd q:=by simp[yt]
theorem zqS(R:Nat->Nat->Nat)(hd:List Nat)(q:Nat):yt R hd q hd.length=Bg R hd (q+1):=by rw[zjh];simp[yt]
theorem zpc(R:Nat->Nat->Nat)(hd:List Nat)(q:Nat){j:Nat}(hj:j<hd.length):yt R hd q (j+1)=yt R hd q j++[(R q (hd.getD j 0):Int)]:=by
 unfold yt;rw[gJ]
 congr 1
 rw[bJ,bE hj,oh hj,sY]
 rfl
theorem zqT(R:Nat->Nat->Nat)(hd:List Nat){q j:Nat}(hq:q<=4000)(eQ:hd.length<=256):(yt R hd q j).length<=1100000:=by
 unfold yt;rw[aQ,zqU,lX,rP];have:=oU hq eQ;omega
theorem zl8(f:Nat->Int)(os:List Nat){q:Nat}(h:q<os.length):(os.take (q+1)).map f=(os.take q).map f++[f (os.getD q 0)]:=by
 rw[bJ,bE h,oh h,sY]
 rfl
theorem sQ.answers{ws:List Nat}(h:sQ (bH d) (dI d) os ws):(os.map λs=>d.tag.getD s 0)=(ws.map λs=>d.tag.getD s 0)/\(os.map λs=>d.fin.getD s 0)=(ws.map λs=>d.fin.getD s 0):=by
 induction h with
 |nil=>exact⟨rfl,rfl⟩
 |cons h1 _ ih=>
  have:=h1.an;unfold dI at this;injection this with t1 t2
  exact⟨by rw[Dm,Dm,t1,ih.1],by rw[Dm,Dm,t2,ih.2]⟩
theorem aI.Oi(h:aI gt n W v l)(hb:b<=gt)(o:Nat)(u:zb):aI gt n (W.setCell ⟨b,o,zc⟩ u) v l:=h.keep λc hc _=>bh _ _ _ _ (by simp;omega)
def ff(W:ze)(b:Nat)(u0 u1 u2 u3 u4:zb):ze:=((((W.setCell ⟨b,0,zc⟩ u0).setCell ⟨b,1,zc⟩ u1).setCell ⟨b,2,zc⟩ u2).setCell ⟨b,3,zc⟩ u3).setCell ⟨b,4,zc⟩ u4
theorem Ig{B:Nat}(h:zh B w W)(hb:B<=b)(u0 u1 u2 u3 u4:zb):zh B w (ff W b u0 u1 u2 u3 u4):=
 ((((h.setCell (by exact hb) _).setCell (by exact hb) _).setCell (by exact hb) _).setCell (by exact hb) _).setCell (by exact hb) _
theorem aI.ff(h:aI gt n W v l)(hb:b<=gt)(u0 u1 u2 u3 u4:zb):aI gt n (ff W b u0 u1 u2 u3 u4) v l:=
 ((((h.Oi hb _ _).Oi hb _ _).Oi hb _ _).Oi hb _ _).Oi hb _ _
theorem aI.zCx{m:Nat}(h:aI gt n W v l)(hm:m<=n):aI gt m W v l:=
 ⟨λi hi=>h.own i (by omega),λi j hi hj=>h.apart i j (by omega) (by omega)⟩
end
theorem aI.put{gt n:Nat}{W:ze}{v:Nat->zb}{l:Nat->List Int}(h:aI gt n W v l){i:Nat}(hi:i<n){g m cap:Nat}(hv:v i=zg (za ⟨g,0,zc⟩) m cap)(hm:(l i).length=m)(j:Nat)(y:Int):aI gt n (W.setCell ⟨g,j,zc⟩ (zf .i64 y)) v (bG l i ((l i).set j y)):=by
 refine⟨λk hk=>?_,h.apart⟩
 by_cases e:k=i
 ·subst e;rw[jj];have ho:W.ownsRow (gt+1) 3 1 (zg (za ⟨g,0,zc⟩) m cap) m ((l k).map eu):=by have:=h.own k hi;unfold bX at this;rw[hv,hm]at this;exact this
  have hs:=(ho.stored j (zf .i64 y)).1;unfold bX;rw[hv,jQ,hm,List.map_set];exact hs
 ·rw[eO _ _ e];refine nY (h.own k hk) λb hb=>bh _ _ _ _ (λe2=>?_)
  have:(v i).ownBlock=za b:=by rw[hv];simp only[Value.ownBlock];rw[show g=b from e2.symm]
  exact h.apart k i hk hi e b hb this
section
open Go
section
variable {P:Program} {ops:Array Oper} {md:Region.Mode} {C:ze->Prop}
def oP(md:Region.Mode)(ops:Array Oper)(listed:Array Bool):Prop:=∀(k:Nat) (o:Oper),ops[k]?=za o->listed.getD k true=true->∀e∈o.after,Region.binds md e=true->listed.getD e.on true=true
theorem zjM{l:Array Bool}{i j:Nat}(h:l.getD i true=true):(l.setIfInBounds j true).getD i true=true:=by
 by_cases e:j=i
 ·subst e
  by_cases hj:j<l.size
  ·simp[hj]
  ·simp[hj]
 ·rw[getD_set_ne true e];exact h
theorem oP.start(md:Region.Mode)(ops:Array Oper):oP md ops (Array.replicate ops.size false):=λk o hk h=>by
 have hlt:=(Array.getElem?_eq_some_iff.1 hk).1;simp[hlt]at h
theorem zs4{listed:Array Bool}{j:Nat}{o:Oper}(ho:ops[j]?=za o)(hj:j∈Region.ready md ops listed):∀e∈o.after,Region.binds md e=true->listed.getD e.on true=true:=λe he hb=>by
 obtain⟨_,o',wh,bm⟩:=mem_ready.1 hj;rw[ho]at wh;cases wh;have h1:=bm e he hb;rcases Nat.lt_or_ge e.on listed.size with h'|h'
 ·simp[h']at h1 ⊢;exact h1
 ·simp[Array.getElem?_eq_none h']at h1
theorem oP.set{listed:Array Bool}(h:oP md ops listed){j:Nat}(hj:j∈Region.ready md ops listed):oP md ops (listed.setIfInBounds j true):=λk o hk hl e he hb=>by
 refine zjM ?_
 by_cases e1:j=k
 ·subst e1;exact zs4 hk hj e he hb
 ·rw[getD_set_ne true e1]at hl;exact h k o hk hl e he hb
theorem zks{Q:Act->Prop}{i n:Nat}{oi:Oper}{v:zb}(hi:ops[i]?=za oi)(nI:∀listed:Array Bool,oP md ops listed->n∈Region.ready md ops listed->listed.getD i true=true)(zF:∀(j:Nat) (o:Oper) cs b,ops[j]?=za o->o.op≠.select cs b):
  ∀(fuel:Nat) (listed:Array Bool) (a:Act),oP md ops listed->
   (∀j oj,ops[j]?=za oj->j≠i->listed.getD j true=false->(∀e∈oj.after,Region.binds md e=true->e.on≠i)->oi.apart ops oj=true)->
   i∈Region.ready md ops listed->YieldsIn P ops C oi v a->
   Fj P md ops C n Q fuel (listed.setIfInBounds i true) (a.put oi.dst v)->Fj P md ops C n Q (fuel+1) listed a:=by
 intro fuel
 induction fuel with
 |zero=>
  intro listed a aV _ hr hy H;refine⟨λh=>(by rw[h]at hr;cases hr),λj hj=>?_⟩
  by_cases gB:j=i
  ·subst gB;exact hy.qOp hi H
  ·have:=ready_mono hj gB;rw[H.1]at this;have e:j=n:=by simpa using this
   subst e;have h1:=nI _ aV hj;rw[(mem_ready.1 hr).1]at h1;cases h1
 |succ fuel ih=>
  intro listed a aV vU hr hy H;refine⟨λh=>(by rw[h]at hr;cases hr),λj hj=>?_⟩
  by_cases gB:j=i
  ·subst gB;exact hy.qOp hi H
  ·have h1:=H.2 j (ready_mono hj gB);obtain⟨zA,oj,qB,bm⟩:=mem_ready.1 hj;have GX:∀e∈oj.after,Region.binds md e=true->e.on≠i:=λe he hb Ci=>by
    have h1:=bm e he hb;have h0:=(mem_ready.1 hr).1;rw[Ci]at h1;rcases Nat.lt_or_ge i listed.size with h'|h'
    ·simp[h']at h0 h1;rw[h0]at h1;cases h1
    ·simp[Array.getElem?_eq_none h']at h1
   have h2:=qOp_put qB (vU j oj qB gB zA GX) (λcs b=>zF i oi cs b hi) (λcs b=>zF j oj cs b qB) hy h1;have GH:∀k ok,ops[k]?=za ok->k≠i->(listed.setIfInBounds j true).getD k true=false->
     (∀e∈ok.after,Region.binds md e=true->e.on≠i)->oi.apart ops ok=true:=λk ok hk GO mV hno=>by
    refine vU k ok hk GO ?_ hno
    by_cases qz:j=k
    ·subst qz;exact zA
    ·rw[getD_set_ne true qz]at mV;exact mV
   refine qOp_mono (λa' h3=>ih (listed.setIfInBounds j true) a' (aV.set hj) GH (ready_mono hr (Ne.symm gB)) h3.1 ?_) h2;rw[Array.setIfInBounds_comm _ _ gB];exact h3.2
end
end
open Go
section
variable {P:Program} {ops:Array Oper} {md:Region.Mode} {C:ze->Prop}
def wH(md:Region.Mode)(ops:Array Oper):Nat->Nat->Array Bool->Bool
 |0,_,listed=>(Region.ready md ops listed).isEmpty
 |f+1,k,listed=>(Region.ready md ops listed == [k])&&wH md ops f (k+1) (listed.setIfInBounds k true)
theorem zkY{f k:Nat}{listed:Array Bool}(h:wH md ops f k listed=true):∀j∈Region.ready md ops listed,j=k/\0<f:=λj hj=>by
 cases f with
 |zero=>
  simp only[wH,List.isEmpty_iff]at h;rw[h]at hj;cases hj
 |succ f=>
  simp only[wH,Bool.and_eq_true,beq_iff_eq]at h;rw[h.1]at hj;exact⟨by simpa using hj,by omega⟩
theorem zgC{Q:Exit->Act->ze->Prop}:∀(l:List Oper) (k:Nat) (listed:Array Bool) (a:Act) (w:ze),(∀j,j<l.length->l[j]?=ops[k+j]?)->wH md ops l.length k listed=true->wpList P ops Q l a w->wpAny P md ops Q l.length listed a w
 |[],_,_,_,_,_,hB,h=>by
  simp only[List.length_nil,wH,List.isEmpty_iff]at hB;exact⟨hB,h⟩
 |o::l,k,listed,a,w,hl,hB,h=>by
  have h0:ops[k]?=za o:=by simpa using (hl 0 (by simp)).symm
  simp only[List.length_cons,wH,Bool.and_eq_true,beq_iff_eq]at hB;have ih:=λa w h=>zgC (Q:=Q) l (k+1) (listed.setIfInBounds k true) a w (λj hj=>by have:=hl (j+1) (by simp;omega);simpa [Nat.add_assoc,Nat.add_comm 1 j]using this) hB.2 h
  refine⟨λe=>absurd e (by rw[hB.1];simp),λi hi=>?_⟩;rw[hB.1]at hi;have e:i=k:=by simpa using hi
  subst e;unfold wpOp;simp only[h0];unfold wpList at h
  by_cases hw:Region.wanted o (yielded ops a.tmps)=true
  ·rw[if_pos hw]at h ⊢;rcases h with h|h
   ·exact .inl (Oper.wp_mono (λa w h=>ih a w h) h)
   ·exact .inr h
  ·rw[if_neg hw]at h ⊢;exact ih _ _ h
def Ph(P:Program)(md:Region.Mode)(ops:Array Oper)(C:ze->Prop)(n:Nat)(Q:Act->Prop):Nat->Array Bool->Act->Prop
 |0,listed,a=>wH md ops (ops.size-n) n listed=true/\Q a
 |fuel+1,listed,a=>Region.ready md ops listed≠[]/\∀i∈Region.ready md ops listed,qOp P ops C i (Ph P md ops C n Q fuel (listed.setIfInBounds i true)) a
theorem zfV{Q:Act->Prop}{Q':Exit->Act->ze->Prop}{n:Nat}{l:List Oper}(hl:∀j,j<l.length->l[j]?=ops[n+j]?)(hsz:ops.size-n=l.length)(hQ:∀a w,C w->Q a->wpList P ops Q' l a w):
  ∀(fuel:Nat) (listed:Array Bool) (a:Act) (w:ze),C w->Ph P md ops C n Q fuel listed a->wpAny P md ops Q' (fuel+l.length) listed a w
 |0,listed,a,w,hw,h=>by
  rw[Nat.zero_add];exact zgC l n listed a w hl (by rw[<-hsz];exact h.1) (hQ a w hw h.2)
 |fuel+1,listed,a,w,hw,h=>by
  rw[show fuel+1+l.length=fuel+l.length+1 by omega];exact⟨λh0=>absurd h0 h.1,λi hi=>wpOp_of_qOp hw (λa' w' hw'=>zfV hl hsz hQ fuel _ a' w' hw') (h.2 i hi)⟩
theorem zmh{Q:Act->Prop}{i n:Nat}{oi:Oper}{v:zb}(hi:ops[i]?=za oi)(nI:∀listed:Array Bool,oP md ops listed->n∈Region.ready md ops listed->listed.getD i true=true)(zF:∀(j:Nat) (o:Oper) cs b,ops[j]?=za o->o.op≠.select cs b):
  ∀(fuel:Nat) (listed:Array Bool) (a:Act),oP md ops listed->
   (∀j oj,ops[j]?=za oj->j≠i->listed.getD j true=false->(∀e∈oj.after,Region.binds md e=true->e.on≠i)->oi.apart ops oj=true)->
   i∈Region.ready md ops listed->YieldsIn P ops C oi v a->
   Ph P md ops C n Q fuel (listed.setIfInBounds i true) (a.put oi.dst v)->Ph P md ops C n Q (fuel+1) listed a:=by
 intro fuel
 induction fuel with
 |zero=>
  intro listed a aV _ hr hy H;refine⟨λh=>(by rw[h]at hr;cases hr),λj hj=>?_⟩
  by_cases gB:j=i
  ·subst gB;exact hy.qOp hi H
  ·have h2:=(zkY H.1 j (ready_mono hj gB)).1;subst h2;have h1:=nI _ aV hj;rw[(mem_ready.1 hr).1]at h1;cases h1
 |succ fuel ih=>
  intro listed a aV vU hr hy H;refine⟨λh=>(by rw[h]at hr;cases hr),λj hj=>?_⟩
  by_cases gB:j=i
  ·subst gB;exact hy.qOp hi H
  ·have h1:=H.2 j (ready_mono hj gB);obtain⟨zA,oj,qB,bm⟩:=mem_ready.1 hj;have GX:∀e∈oj.after,Region.binds md e=true->e.on≠i:=λe he hb Ci=>by
    have h1:=bm e he hb;have h0:=(mem_ready.1 hr).1;rw[Ci]at h1;rcases Nat.lt_or_ge i listed.size with h'|h'
    ·simp[h']at h0 h1;rw[h0]at h1;cases h1
    ·simp[Array.getElem?_eq_none h']at h1
   have h2:=qOp_put qB (vU j oj qB gB zA GX) (λcs b=>zF i oi cs b hi) (λcs b=>zF j oj cs b qB) hy h1;have GH:∀k ok,ops[k]?=za ok->k≠i->(listed.setIfInBounds j true).getD k true=false->
     (∀e∈ok.after,Region.binds md e=true->e.on≠i)->oi.apart ops ok=true:=λk ok hk GO mV hno=>by
    refine vU k ok hk GO ?_ hno
    by_cases qz:j=k
    ·subst qz;exact zA
    ·rw[getD_set_ne true qz]at mV;exact mV
   refine qOp_mono (λa' h3=>ih (listed.setIfInBounds j true) a' (aV.set hj) GH (ready_mono hr (Ne.symm gB)) h3.1 ?_) h2;rw[Array.setIfInBounds_comm _ _ gB];exact h3.2
def sR(md:Region.Mode)(ops:Array Oper):Nat->Nat->Nat->Bool
 |0,n,i=>Df md ops n i
 |f+1,n,i=>Df md ops n i || (List.range n).any λk=>Df md ops n k&&sR md ops f k i
theorem zrV{n i:Nat}(h:Df md ops n i=true):∃o,ops[n]?=za o/\∃e∈o.after,Region.binds md e=true/\e.on=i:=by
 unfold Df at h;split at h
 ·rename_i o ho
  simp only[Array.any_eq_true,Bool.and_eq_true,beq_iff_eq]at h;obtain⟨q,hq,hb,he⟩:=h;exact⟨o,ho,_,Array.getElem_mem hq,hb,he⟩
 ·cases h
theorem KI{listed:Array Bool}(hc:oP md ops listed):∀(f n i:Nat),listed.getD n true=true->sR md ops f n i=true->listed.getD i true=true
 |0,n,i,hl,h=>by
  obtain⟨o,ho,e,he,hb,e2⟩:=zrV h;rw[<-e2];exact hc n o ho hl e he hb
 |f+1,n,i,hl,h=>by
  unfold sR at h;rw[Bool.or_eq_true]at h;rcases h with h|h
  ·exact KI hc 0 n i hl h
  ·obtain⟨k,_,hk⟩:=List.any_eq_true.1 h;rw[Bool.and_eq_true]at hk;exact KI hc f k i (KI hc 0 n k hl hk.1) hk.2
theorem zin{f n i:Nat}(h:sR md ops f n i=true)(listed:Array Bool)(hc:oP md ops listed)(hr:n∈Region.ready md ops listed):listed.getD i true=true:=by
 cases f with
 |zero=>exact Tk h listed hr
 |succ f=>
  unfold sR at h;rw[Bool.or_eq_true]at h;rcases h with h|h
  ·exact Tk h listed hr
  ·obtain⟨k,_,hk⟩:=List.any_eq_true.1 h;rw[Bool.and_eq_true]at hk;exact KI hc f k i (Tk hk.1 listed hr) hk.2
def SA(md:Region.Mode)(ops:Array Oper)(n:Nat):Nat->Nat->Array Bool->Bool
 |0,_,listed=>wH md ops (ops.size-n) n listed
 |fuel+1,k,listed=>(Region.ready md ops listed).contains k&&Region.free md ops listed k&&SA md ops n fuel (k+1) (listed.setIfInBounds k true)
def preB(md:Region.Mode)(ops:Array Oper)(n:Nat):Bool:=
 Region.noSelect ops&&(List.range n).all (λi=>decide (ops.size<=n) || sR md ops 6 n i)&&SA md ops n n 0 (Array.replicate ops.size false)
theorem zjy{Q:Act->Prop}{n:Nat}(hs:Region.noSelect ops=true)(hn:∀i,i<n->(decide (ops.size<=n) || sR md ops 6 n i)=true):∀(l:List Oper) (k:Nat) (listed:Array Bool) (a:Act),oP md ops listed->(∀j,j<l.length->l[j]?=ops[k+j]?)->k+l.length=n->
  SA md ops n l.length k listed=true->wpQuiet P ops C Q l a->Ph P md ops C n Q l.length listed a
 |[],_,_,_,_,_,_,hB,h=>⟨hB,h⟩
 |o::l,k,listed,a,aV,hl,kz,hB,h=>by
  have h0:ops[k]?=za o:=by simpa using (hl 0 (by simp)).symm
  simp only[List.length_cons,SA,Bool.and_eq_true]at hB;obtain⟨⟨hr,hf⟩,B6⟩:=hB;have hst:qOp P ops C k (wpQuiet P ops C Q l) a:=by unfold qOp;simp only[h0];exact h
  obtain⟨v,hy,hK⟩:=yieldsIn_of_qOp h0 hst;simp only[List.length_cons]at kz;have dC:k∈Region.ready md ops listed:=by simpa using hr
  exact zmh h0 (λL hc Cp=>by
    have h1:=hn k (by omega);rw[Bool.or_eq_true]at h1;rcases h1 with h1|h1
    ·have h2:=of_decide_eq_true h1;obtain⟨_,o',wh,_⟩:=mem_ready.1 Cp;have:=(Array.getElem?_eq_some_iff.1 wh).1;omega
    ·exact zin h1 L hc Cp) (Region.noSelect_spec hs) l.length listed a aV (Region.free_spec h0 hf) dC hy
   (zjy hs hn l (k+1) _ _ (aV.set dC) (λj hj=>by have:=hl (j+1) (by simp;omega);simpa [Nat.add_assoc,Nat.add_comm 1 j]using this) (by omega) B6 hK)
theorem zr0(n:Nat){Q:Exit->Act->ze->Prop}{a:Act}{w:ze}{all:List Oper}(C:ze->Prop)(hC:C w)(hn:n<=all.length)(hB:preB md all.toArray n=true)
  (h:∀l,l=all.take n->wpQuiet P all.toArray C (λa'=>∀w',C w'->∀r,r=all.drop n->wpList P all.toArray Q r a' w') l a):wpAny P md all.toArray Q all.length (Array.replicate all.length false) a w:=by
 simp only[preB,Bool.and_eq_true,List.all_eq_true,List.mem_range]at hB;have hlt:(all.take n).length=n:=by rw[List.length_take];omega
 have vZ:(all.drop n).length=all.length-n:=by rw[List.length_drop]
 have h1:=zjy (P:=P) (C:=C) hB.1.1 hB.1.2 (all.take n) 0 (Array.replicate all.toArray.size false) a (oP.start _ _) (λj hj=>by rw[hlt]at hj;simp[hj]) (by omega) (by rw[hlt];exact hB.2) (h _ rfl);have h2:=zfV (md:=md) (C:=C) (Q':=Q) (n:=n) (l:=all.drop n) (λj _=>by simp[List.getElem?_drop]) (by simp) (λa w hw hq=>hq w hw _ rfl) (all.take n).length _ a w hC h1;rw[hlt,vZ,show n+(all.length-n)=all.length by omega]at h2
 simpa using h2
theorem Ie(n:Nat){id:Nat}{Q:Exit->Act->ze->Prop}{a:Act}{w:ze}{all:List Oper}(C:ze->Prop)(hm:P.follows .mixedOrders=true)(hC:C w.drew)(hn:n<=all.length)(hB:preB .any all.toArray n=true)
  (h:∀l,l=all.take n->wpQuiet P all.toArray C (λa'=>∀w',C w'->∀r,r=all.drop n->wpList P all.toArray Q r a' w') l a):(Code.region id all.toArray true).wp P Q a w:=by
 refine wp_region_any hm ?_;have:=zr0 (md:=.any) n C hC hn hB h
 simpa using this
end
end Go.Proofs.YtfajjdgkiilhfaaGreatDoor
