import Derived.Test.YthddplbodacjgaaGreatDoorC15
import Derived.Deep.Slices
import Derived.Deep.RegionHeld3
namespace Go.Proofs.YthddplbodacjgaaGreatDoor
open Go.RowKit
section
variable {B gt n:Nat}{W W':World}{v:Nat -> Value}{xs:List Int}{l:Nat -> List Int}
def intV(x:Int):Value:=.int .i64 x
def Owns(B:Nat)(W:World)(v:Value)(xs:List Int):Prop:=W.ownsRow B 3 1 v xs.length (xs.map intV)
def updL(l:Nat->List Int)(k:Nat)(x:List Int):Nat->List Int:=fun j=>if j=k then x else l j
theorem zar(l:Nat->List Int)(k:Nat)(x:List Int):updL l k x k=x:=by simp[updL]
theorem zaf(l:Nat->List Int){k j:Nat}(x:List Int)(h:j≠k):updL l k x j=l j:=by simp[updL,h]
theorem zaD(S:Nat->Value)(v:Value){j k:Nat}(h:j≠k):upd S k v j=S j:=by simp[upd,h]
structure Fam(gt n:Nat)(W:World)(v:Nat->Value)(l:Nat->List Int):Prop where
 own:∀i,i<n->Owns (gt+1) W (v i) (l i)
 apart:∀i j,i<n->j<n->i≠j->∀b,(v i).ownBlock=some b->(v j).ownBlock≠some b
theorem zaR{v:Value}(h:Owns B W v xs){b:Nat}(hb:v.ownBlock=some b):B<=b/\b<W.heap.size:=by
 rcases h.2 with ⟨rfl,_⟩|⟨g,cap,cur,rfl,hg,hh,_⟩
 ·simp[Value.ownBlock] at hb
 ·simp[Value.ownBlock] at hb;subst hb;exact⟨hg,(ztp.1 hh).1⟩
theorem zer{v:Value}(h:Owns B W v xs)(hk:∀b,v.ownBlock=some b->W'.heap[b]?=W.heap[b]?):Owns B W' v xs:=by
 refine⟨h.1,?_⟩;rcases h.2 with h2|⟨g,cap,cur,rfl,hg,hh,r⟩
 ·exact .inl h2
 ·exact .inr ⟨g,cap,cur,rfl,hg,by rw[hk g rfl];exact hh,r⟩
theorem Fam.keep(h:Fam gt n W v l)(hk:∀b,gt<b->b<W.heap.size->W'.heap[b]?=W.heap[b]?):Fam gt n W' v l:=
 ⟨fun i hi=>zer (h.own i hi) fun b hb=>by have:=zaR (h.own i hi) hb;exact hk b (by omega) this.2,h.apart⟩
theorem Fam.below(h:Fam gt n W v l)(hb:Below W.heap.size W W'):Fam gt n W' v l:=h.keep fun b _ hl=>hb.block b hl
theorem Fam.set(h:Fam gt n W v l)(o:Nat)(u:Value):Fam gt n (W.setCell ⟨gt,o,none⟩ u) v l:=h.keep fun b hb _=>zuS _ _ _ _ (by simp;omega)
theorem Fam.append(h:Fam gt n W v l){i:Nat}(hi:i<n){g cap:Nat}{x:Int}
  (own:W'.ownsRow (gt+1) 3 1 (.slice (some ⟨g,0,none⟩) ((l i).length+1) cap) ((l i).length+1) ((l i).map intV++[.int .i64 x])) (grow:W.grownBy W' (v i).ownBlock) (at':(v i).ownBlock=some g\/W.heap.size<=g):
  Fam gt n W' (upd v i (.slice (some ⟨g,0,none⟩) ((l i).length+1) cap)) (updL l i (l i++[x])):=by
 refine⟨fun j hj=>?_,fun j k hj hk hne b hb=>?_⟩
 ·by_cases e:j=i
  ·subst e;rw[zaH,zar];unfold Owns;rw[zt1,zt9];exact own
  ·rw[zaD _ _ e,zaf _ _ e];refine zer (h.own j hj) fun b hb=>?_
   have hlt:=zaR (h.own j hj) hb;exact grow.block b hlt.2 (fun hc=>h.apart j i hj hi e b hb hc.symm)
 ·have key:∀j,j<n->j≠i->∀b,(v j).ownBlock=some b->b≠g:=by
   intro j2 hj2 e2 b2 hb2 hbg;rcases at' with a2|a2
   ·rw[<-hbg] at a2;exact h.apart j2 i hj2 hi e2 b2 hb2 a2
   ·have:=(zaR (h.own j2 hj2) hb2).2;omega
  by_cases e:j=i
  ·subst e;rw[zaH] at hb;rw[zaD _ _ (Ne.symm hne)];simp[Value.ownBlock] at hb;subst hb;intro hc;exact key k hk (Ne.symm hne) _ hc rfl
  ·rw[zaD _ _ e] at hb
   by_cases e2:k=i
   ·subst e2;rw[zaH];intro hc;simp[Value.ownBlock] at hc;exact key j hj e b hb hc.symm
   ·rw[zaD _ _ e2];exact h.apart j k hj hk hne b hb
theorem Fam.nil(gt n:Nat)(W:World):Fam gt n W (fun _=>.slice none 0 0) (fun _=>[]):=
 ⟨fun _ _=>⟨rfl,.inl ⟨rfl,rfl⟩⟩,fun _ _ _ _ _ b hb=>by simp[Value.ownBlock] at hb⟩
theorem Owns.at{v:Value}(h:Owns B W v xs)(hl:xs.length<=9223372036854775807):zbx B W v xs:=by
 rcases h.2 with ⟨rfl,h0⟩|⟨g,cap,cur,rfl,hg,hh,hn,hcap,hsz,ht⟩
 ·have:xs=[]:=ztK h0;subst this;exact⟨none,0,rfl,by simp,fun h=>absurd h (by simp)⟩
 ·refine⟨some ⟨g,0,none⟩,cap,rfl,hl,fun _=>⟨g,0,rfl,hg,(ztp.1 hh).1,fun i hi=>?_⟩⟩;have:W.ownsRow B 3 1 (.slice (some ⟨g,0,none⟩) xs.length cap) xs.length (xs.map intV):=h;rw[zuK,this.cellAt i (by omega)];simp[intV,List.getD,hi]
end
section
variable {l zs os:List Nat}{m:Nat -> Nat -> Bool}{n k c:Nat}{d:DfaD}{ch:Nat -> Nat}
structure ChI(d:DfaD)(l:List Nat)(ch:Nat->Nat):Prop where
 mem:∀s∈l,ch s∈l
 al:∀s∈l,zbc (stN d) (anN d) s (ch s)
 eq:∀s∈l,∀t∈l,zbc (stN d) (anN d) s t->ch s=ch t
def ChL(l:List Nat)(m:Nat->Nat->Bool)(zs:List Nat)(n k:Nat):Prop:=
 zs.length=n/\∀i,i<k->∃q,q<l.length/\zs.getD (l.getD i 0) 0=l.getD q 0/\m i q=false/\∀j,j<q->m i j=true
theorem ChL.next(h:ChL l m zs n k)(hn:l.Nodup)(hk:k<l.length)(hl:l.getD k 0<n){q:Nat}(hq:q<l.length)(hm:m k q=false)(hj:∀j,j<q->m k j=true):ChL l m (zs.set (l.getD k 0) (l.getD q 0)) n (k+1):=by
 have h1:=h.1;refine⟨by simp[h.1],fun i hi=>?_⟩
 by_cases e:i=k
 ·subst e;exact⟨q,hq,by rw[ztO,List.getElem?_set_self (by omega)];rfl,hm,hj⟩
 ·obtain⟨q',a1,a2,a3,a4⟩:=h.2 i (by omega);have hne:l.getD k 0≠l.getD i 0:=fun e2=>e (ze6 hn hk (by omega) e2).symm
  exact⟨q',a1,by rw[ztO,List.getElem?_set_ne hne,<-ztO];exact a2,a3,a4⟩
theorem ChL.chief(h:ChL l m zs n l.length)(hm:∀x y,x<l.length->y<l.length->(m x y=false↔zbc (stN d) (anN d) (l.getD x 0) (l.getD y 0))):ChI d l (fun s=>zs.getD s 0):=by
 refine⟨fun s hs=>?_,fun s hs=>?_,fun s hs t ht e=>?_⟩
 ·obtain⟨i,hi,rfl⟩:=zfP hs;obtain⟨q,a1,a2,_⟩:=h.2 i hi;show zs.getD (l.getD i 0) 0∈l;rw[a2];exact za3 a1
 ·obtain⟨i,hi,rfl⟩:=zfP hs;obtain⟨q,a1,a2,a3,_⟩:=h.2 i hi;show zbc _ _ _ (zs.getD (l.getD i 0) 0);rw[a2];exact(hm i q hi a1).1 a3
 ·obtain⟨i,hi,rfl⟩:=zfP hs;obtain⟨i',hi',rfl⟩:=zfP ht;obtain⟨q,a1,a2,a3,a4⟩:=h.2 i hi;obtain⟨q',b1,b2,b3,b4⟩:=h.2 i' hi';show zs.getD (l.getD i 0) 0=zs.getD (l.getD i' 0) 0;have hq:q=q':=by
   rcases zuD q q' with k|k|k
   ·have h1:=b4 q k;rw[(hm i' q hi' a1).2 (e.symm.trans ((hm i q hi a1).1 a3))] at h1;cases h1
   ·exact k
   ·have h1:=a4 q' k;rw[(hm i q' hi b1).2 (e.trans ((hm i' q' hi' b1).1 b3))] at h1;cases h1
  rw[a2,b2,hq]
structure OsI(d:DfaD)(l:List Nat)(ch:Nat->Nat)(os:List Nat)(k c:Nat):Prop where
 al:zcX (stN d) (anN d) os (zat (stN d) (anN d) k c)
 can:∀o∈os,o∈l/\ch o=o
 nd:os.Nodup
theorem ChI.idem(h:ChI d l ch){s:Nat}(hs:s∈l):ch (ch s)=ch s:=(h.eq s hs (ch s) (h.mem s hs) (h.al s hs)).symm
theorem OsI.start(h:ChI d l ch)(hR:RchD d l):OsI d l ch [ch 0] 0 0:=by
 have h0:(0:Nat)∈l:=by have:=za3 hR.pos;rw[hR.head] at this;exact this
 refine⟨?_,fun o ho=>?_,by simp⟩
 ·rw[zcD];exact .cons (h.al 0 h0).symm .nil
 ·simp at ho;subst ho;exact⟨h.mem 0 h0,h.idem h0⟩
theorem zg5(h:ChI d l ch){os:List Nat}(hc:∀o∈os,o∈l/\ch o=o){x:Nat}(hx:x∈l)(ex:ch x=x):plF (zav os) (x:Int)=if idxA (stN d) (anN d) os x<os.length then (idxA (stN d) (anN d) os x:Int) else -1:=by
 have e:(zav os).findIdx (·== (x:Int))=idxA (stN d) (anN d) os x:=by
  unfold zav idxA;rw[List.findIdx_map];have hp:∀os':List Nat,(∀o∈os',o∈os)->os'.findIdx ((fun y:Int=>y==(x:Int)) ∘ fun x:Nat=>(x:Int))=os'.findIdx fun o=>decide (zbc (stN d) (anN d) o x):=by
   intro os' hs
   induction os' with
   |nil=>rfl
   |cons o os' ih=>
    rw[ztM,ztM,ih (fun y hy=>hs y (by simp[hy]))];have ho:=hc o (hs o (by simp));have:((fun y:Int=>y==(x:Int)) ∘ fun x:Nat=>(x:Int)) o=decide (zbc (stN d) (anN d) o x):=by
     by_cases al:zbc (stN d) (anN d) o x
     ·have e:=h.eq o ho.1 x hx al;rw[ho.2,ex] at e;subst e;simp[al]
     ·have:o≠x:=fun e=>al (e ▸ zbc.refl _ _ _)
      simp[al];omega
    rw[this]
  exact hp os fun _ h=>h
 unfold plF;rw[e,zag]
theorem OsI.to(h:ChI d l ch)(hR:RchD d l){os:List Nat}{k c:Nat}(hO:OsI d l ch os k c)(hk:k<os.length)(hc:c<256):stN d (os.getD k 0) c∈l/\ch (stN d (os.getD k 0) c)∈l/\ch (ch (stN d (os.getD k 0) c))=ch (stN d (os.getD k 0) c)/\zbc (stN d) (anN d) (ch (stN d (os.getD k 0) c)) (stN d ((zat (stN d) (anN d) k c).getD k 0) c):=by
 have h1:=hR.cl _ (hO.can _ (za3 hk)).1 c hc;exact⟨h1,h.mem _ h1,h.idem h1,(h.al _ h1).symm.trans ((hO.al.at k hk).step hc)⟩
theorem OsI.old(h:ChI d l ch)(hR:RchD d l){os:List Nat}{k c:Nat}(hO:OsI d l ch os k c)(hk:k<os.length)(hc:c<256)(hp:¬plF (zav os) (ch (stN d (os.getD k 0) c):Int)<0):
  OsI d l ch os k (c+1)/\plF (zav os) (ch (stN d (os.getD k 0) c):Int)=(rowA (stN d) (anN d) k c:Int):=by
 obtain⟨h1,h2,h3,h4⟩:=hO.to h hR hk hc;have hpl:=zg5 h hO.can h2 h3;have hi:=hO.al.idx h4;have hlt:idxA (stN d) (anN d) os (ch (stN d (os.getD k 0) c))<os.length:=by
  by_cases e:idxA (stN d) (anN d) os (ch (stN d (os.getD k 0) c))<os.length
  ·exact e
  ·rw[zuU e] at hpl;omega
 rw[zuV hlt] at hpl;refine⟨⟨?_,hO.can,hO.nd⟩,?_⟩
 ·rw[zcl];unfold addA;rw[zuV (by rw[<-hi,<-hO.al.length];exact hlt)];exact hO.al
 ·rw[hpl,zg7,hi]
theorem OsI.new(h:ChI d l ch)(hR:RchD d l){os:List Nat}{k c:Nat}(hO:OsI d l ch os k c)(hk:k<os.length)(hc:c<256)(hp:plF (zav os) (ch (stN d (os.getD k 0) c):Int)<0):
  OsI d l ch (os++[ch (stN d (os.getD k 0) c)]) k (c+1)/\plF (zav (os++[ch (stN d (os.getD k 0) c)])) (ch (stN d (os.getD k 0) c):Int)=(rowA (stN d) (anN d) k c:Int):=by
 obtain⟨h1,h2,h3,h4⟩:=hO.to h hR hk hc;have hpl:=zg5 h hO.can h2 h3;have hi:=hO.al.idx h4;have hlt:¬idxA (stN d) (anN d) os (ch (stN d (os.getD k 0) c))<os.length:=by
  intro e;rw[zuV e] at hpl;omega
 have hcan:∀o∈os++[ch (stN d (os.getD k 0) c)],o∈l/\ch o=o:=fun o ho=>by
  rcases zuc.1 ho with k1|k1
  ·exact hO.can o k1
  ·simp at k1;subst k1;exact⟨h2,h3⟩
 have hadd:zcX (stN d) (anN d) (os++[ch (stN d (os.getD k 0) c)]) (zat (stN d) (anN d) k (c+1)):=by
  rw[zcl];unfold addA;rw[zuU (by rw[<-hi,<-hO.al.length];exact hlt)];exact hO.al.snoc h4
 have hnm:ch (stN d (os.getD k 0) c)∉os:=fun hm=>hlt (zgI.2 ⟨_,hm,zbc.refl _ _ _⟩)
 refine⟨⟨hadd,hcan,?_⟩,?_⟩
 ·rw[zuk];exact⟨hO.nd,by simp,fun a ha b hb=>by simp at hb;subst hb;exact fun e=>hnm (e ▸ ha)⟩
 ·rw[zg5 h hcan h2 h3,zgh hlt,zuV (zbc.refl _ _ _),zuV (by simp),zg7,<-hi];have:=zkZ (stN d) (anN d) os (ch (stN d (os.getD k 0) c));omega
theorem OsI.row(hO:OsI d l ch os k c)(hc:c=256):OsI d l ch os (k+1) 0:=by
 subst hc;exact⟨by rw[zcS];exact hO.al,hO.can,hO.nd⟩
theorem OsI.len(hO:OsI d l ch os k c)(hR:RchD d l):os.length<=d.tag.length:=
 zb2 _ os hO.nd fun x hx=>hR.lt x (hO.can x hx).1
end
section
variable {B gt n K c j:Nat}{W W':World}{v:Nat -> Value}{xs:List Int}{l:Nat -> List Int}{R:Nat -> Nat -> Nat}
theorem ziK{w:World}{x:Value}{t:TypeId}(h:w.heap[B]?=some (.cells #[x] t (0,0))):∀j u,[x][j]?=some u->w.cell? ((⟨B,0,none⟩:Addr).add j)=some u:=World.news_of_block h
theorem zaj{v:Value}(h:Owns B W v xs):∃r:Option Addr×Nat,v=.slice r.1 xs.length r.2:=by
 rcases h.2 with ⟨rfl,h0⟩|⟨g,cap,cur,rfl,_⟩
 ·exact⟨(none,0),by rw[h0]⟩
 ·exact⟨(some ⟨g,0,none⟩,cap),rfl⟩
theorem zbe{v:Value}(h:Owns B W v xs)(hne:0<xs.length):∃g cap,v=.slice (some ⟨g,0,none⟩) xs.length cap/\B<=g/\g<W.heap.size/\∀j,j<xs.length->W.cell? ⟨g,j,none⟩=some (.int .i64 (xs.getD j 0)):=by
 have h':W.ownsRow B 3 1 v xs.length (xs.map intV):=h;rcases h.2 with ⟨rfl,h0⟩|⟨g,cap,cur,rfl,hg,hh,_⟩
 ·omega
 ·refine⟨g,cap,rfl,hg,(ztp.1 hh).1,fun j hj=>?_⟩;rw[h'.cellAt j (by omega)];simp[intV,List.getD,hj]
theorem za9{v:Value}(h:Owns B W v xs){b:Nat}(hb:v.ownBlock=some b):∃cur:Array Value,W.heap[b]?=some (.cells cur 3 (0,0)):=by
 rcases h.2 with ⟨rfl,_⟩|⟨g,cap,cur,rfl,hg,hh,_⟩
 ·simp[Value.ownBlock] at hb
 ·simp[Value.ownBlock] at hb;subst hb;exact⟨cur,hh⟩
theorem Fam.keepO(h:Fam gt n W v l)(hk:∀i,i<n->∀b,(v i).ownBlock=some b->W'.heap[b]?=W.heap[b]?):Fam gt n W' v l:=
 ⟨fun i hi=>zer (h.own i hi) (hk i hi),h.apart⟩
theorem Fam.other(h:Fam gt n W v l){g:Nat}{cs:Array Value}{e:TypeId}(hg:W.heap[g]?=some (.cells cs e (0,0)))(he:e≠3)(hgr:W.grownBy W' (some g)):Fam gt n W' v l:=
 h.keepO fun i hi b hb=>by
  obtain⟨cur,hc⟩:=za9 (h.own i hi) hb;exact hgr.block b (ztp.1 hc).1 (fun e2=>by cases e2;rw[hg] at hc;exact he (zap hc))
theorem Fam.others(h:Fam gt n W v l){i:Nat}(hi:i<n)(hgr:W.grownBy W' (v i).ownBlock){b:Nat}{cs:Array Value}{e:TypeId}(he:e≠3)(hb:W.heap[b]?=some (.cells cs e (0,0))):W'.heap[b]?=some (.cells cs e (0,0)):=
 (hgr.block b (ztp.1 hb).1 (fun e2=>by
  obtain⟨cur,hc⟩:=za9 (h.own i hi) e2.symm;rw[hb] at hc;exact he (zap hc))).trans hb
theorem Fam.new(h:Fam gt n W v l)(hB:gt+1<=W.heap.size):Fam gt (n+1) (W.alloc (.cells #[] 3)) (upd v n (.slice (some ⟨W.heap.size,0,none⟩) 0 0)) (updL l n []):=by
 have hb:Below W.heap.size W (W.alloc (.cells #[] 3)):=(Below.refl _ _).alloc (zuz _) _;have h':=h.below hb;refine⟨fun i hi=>?_,fun i j hi hj hne b hbi=>?_⟩
 ·by_cases e:i=n
  ·subst e;rw[zaH,zar];exact zcO (zcc W 3) hB
  ·rw[zaD _ _ e,zaf _ _ e];exact h'.own i (by omega)
 ·by_cases e:i=n
  ·subst e;rw[zaH] at hbi;rw[zaD _ _ (Ne.symm hne)];simp[Value.ownBlock] at hbi;intro hc;have:=(zaR (h.own j (by omega)) hc).2;omega
  ·rw[zaD _ _ e] at hbi
   by_cases e2:j=n
   ·subst e2;rw[zaH];have:=(zaR (h.own i (by omega)) hbi).2;simp[Value.ownBlock];omega
   ·rw[zaD _ _ e2];exact h.apart i j (by omega) (by omega) hne b hbi
theorem Fam.congr{v':Nat->Value}{l':Nat->List Int}(h:Fam gt n W v l)(hv:∀i,i<n->v i=v' i)(hl:∀i,i<n->l i=l' i):Fam gt n W v' l':=
 ⟨fun i hi=>by rw[<-hv i hi,<-hl i hi];exact h.own i hi,fun i j hi hj hne b hb=>by rw[<-hv j hj];rw[<-hv i hi] at hb;exact h.apart i j hi hj hne b hb⟩
theorem za4{ops:Array Oper}{rest:List Oper}{o:Oper}{a:Act}{Q:Exit->Act->World->Prop}(S:Fam gt n W v l)(H:Nat)(hH:W.heap.size=H)(hgd:o.guard=none)(s x:Operand)
  (ho:o.op=.call {callee:=.builtin .append,args:=#[s,x],argTypes:=#[24,24]}) (i:Nat) (hi:i<n) (xs:List Int) (hxs:l i=xs) (m:Nat) (hn:xs.length=m) (hs:a.eval s=v i) (y:Int) (hx:a.eval x=.slice (some ⟨H,0,none⟩) 1 1) (hl:m<=2000000) (hB:gt+1<=W.heap.size)
  (h:∀g cap W',Fam gt n W' (upd v i (.slice (some ⟨g,0,none⟩) (m+1) cap)) (updL l i (xs++[y]))->W.grownBy W' (v i).ownBlock->wpList Tryz.prog ops Q rest (a.put o.dst (.slice (some ⟨g,0,none⟩) (m+1) cap)) W'):
  wpList Tryz.prog ops Q (o::rest) a (W.alloc (.cells #[.int .i64 y] 3)):=by
 subst hH;subst hn;subst hxs;obtain⟨i0,hi0,hz0,hz1,hz2⟩:=info_parts Tryz.infoInt;have hb:Below W.heap.size W (W.alloc (.cells #[.int .i64 y] 3)):=(Below.refl _ _).alloc (zuz _) _;have own:(W.alloc (.cells #[.int .i64 y] 3)).ownsRow (gt+1) 3 1 (v i) (l i).length ((l i).map intV):=(S.below hb).own i hi;refine wpList_append_lies _ hgd s x 24 ho (gt+1) 3 i0 _ 1 8 Tryz.underlying24 hi0 hz0 hz1 hz2 rfl (by omega) (v i) (l i).length ((l i).map intV) hs own ⟨W.heap.size,0,none⟩ 1 1 [.int .i64 y] hx rfl (ziK (zuR _ _)) (by intro u hu;simp at hu;subst hu;rfl) (by omega) (by unfold maxLen;omega) (by omega) (by simp;omega) (W.heap.size+1) (by simp) ?_;intro g cap W' own' grow' at' _;refine h g cap W' (Fam.append (S.below hb) hi own' grow' (at'.imp id (fun h=>by simp;omega))) ?_;exact⟨grow'.os,grow'.tape,grow'.output,zuA hb.size grow'.size,fun k hk hne=>(grow'.block k (by have:=hb.size;omega) hne).trans (hb.block k hk)⟩
theorem zmO(K:Nat)(R:Nat->Nat->Nat)(h c:Nat):zbZ (K+1) R h c=(zbZ K R h c&&(R K h==R K c)):=by simp[zbZ,List.range_succ]
theorem zl1(hj:j<(zah K R c).length):zbZ K R ((zah K R c).getD j 0) c=true↔clsF K R c=j:=by
 have hg:(zah K R c).getD j 0=(zah K R c)[j]:=by rw[ztO,ztT hj];rfl
 constructor
 ·intro h;unfold clsF;rw[List.findIdx_eq hj];refine⟨by rw[<-hg];exact h,fun i hi=>?_⟩;cases e:zbZ K R (zah K R c)[i] c
  ·rfl
  ·have hgi:(zah K R c).getD i 0=(zah K R c)[i]:=by rw[ztO,ztT (by omega)];rfl
   have:i=j:=zeP K R c i j (by omega) hj (by
    rw[zeh] at *;intro k hk;rw[hgi];exact(e k hk).trans (h k hk).symm)
   omega
 ·intro h;have h1:clsF K R c<(zah K R c).length:=by omega
  have:=List.findIdx_getElem (w:=h1);unfold clsF at h;rw[hg]
  simpa [h] using this
def clsV(K:Nat)(R:Nat->Nat->Nat)(c j:Nat):Int:=if clsF K R c<j then (clsF K R c:Int) else -1
theorem zqq(hj:j<(zah K R c).length)(h:zbZ K R ((zah K R c).getD j 0) c=true):clsV K R c (j+1)=j:=by
 have:=(zl1 hj).1 h;unfold clsV;rw[zuV (by omega),this]
theorem zr6(hj:j<(zah K R c).length)(h:zbZ K R ((zah K R c).getD j 0) c=false):clsV K R c (j+1)=clsV K R c j:=by
 have:clsF K R c≠j:=fun e=>by have:=(zl1 hj).2 e;rw[h] at this;cases this
 unfold clsV
 by_cases e:clsF K R c<j
 ·rw[zuV e,zuV (by omega)]
 ·rw[zuU e,zuU (by omega)]
end
section
variable {w0:World}{Ns:List NdX}{X:Xs}{N h c i:Nat}
attribute [local go_sem ↓] Go.wp_at_zero Go.wp_at_succ
theorem AtN.pos:∀{T:GT} {n j:Nat},AtN w0 Ns T n->j<T.ga.n->∃sv rs,Ns[T.at j]?=some ⟨115,0,0,sv⟩/\zan 0 w0 sv rs/\∀c,hasF rs c=T.ga.st j c
 |.s p f,n,j,⟨h,sv,rs,h1,h2,h3⟩,hj=>by
  have hj:j<1:=hj;obtain rfl:j=0:=by omega
  subst h;exact⟨sv,rs,h1,h2,fun c=>by rw[h3];show f c=((0==0)&&f c);simp⟩
 |.q a b,n,j,⟨l,r,h1,h2,h3⟩,hj=>by
  rcases zd4 a.ga.n j with h|⟨k,rfl⟩
  ·obtain⟨sv,rs,e1,e2,e3⟩:=h2.pos h;refine⟨sv,rs,?_,e2,fun c=>?_⟩
   ·show Ns[(a.lab++b.lab).getD j 0]?=_;rw[zfv h];exact e1
   ·rw[e3];show _=(a.ga.st j c || (decide (a.ga.n<=j)&&b.ga.st (j-a.ga.n) c));simp[show ¬a.ga.n<=j from by omega]
  ·have hk:a.ga.n+k<a.ga.n+b.ga.n:=hj;obtain⟨sv,rs,e1,e2,e3⟩:=h3.pos (show k<b.ga.n by omega);refine⟨sv,rs,?_,e2,fun c=>?_⟩
   ·show Ns[(a.lab++b.lab).getD (a.ga.n+k) 0]?=_;rw[zgr];exact e1
   ·rw[e3];show _=(a.ga.st (a.ga.n+k) c || (decide (a.ga.n<=a.ga.n+k)&&b.ga.st (a.ga.n+k-a.ga.n) c));rw[show a.ga.st (a.ga.n+k) c=false from zju (u:=fun i=>a.ga.st i c) fun i h=>a.ga.stB i c h,zux];simp
 |.o a b,n,j,⟨l,r,h1,h2,h3⟩,hj=>by
  rcases zd4 a.ga.n j with h|⟨k,rfl⟩
  ·obtain⟨sv,rs,e1,e2,e3⟩:=h2.pos h;refine⟨sv,rs,?_,e2,fun c=>?_⟩
   ·show Ns[(a.lab++b.lab).getD j 0]?=_;rw[zfv h];exact e1
   ·rw[e3];show _=(a.ga.st j c || (decide (a.ga.n<=j)&&b.ga.st (j-a.ga.n) c));simp[show ¬a.ga.n<=j from by omega]
  ·have hk:a.ga.n+k<a.ga.n+b.ga.n:=hj;obtain⟨sv,rs,e1,e2,e3⟩:=h3.pos (show k<b.ga.n by omega);refine⟨sv,rs,?_,e2,fun c=>?_⟩
   ·show Ns[(a.lab++b.lab).getD (a.ga.n+k) 0]?=_;rw[zgr];exact e1
   ·rw[e3];show _=(a.ga.st (a.ga.n+k) c || (decide (a.ga.n<=a.ga.n+k)&&b.ga.st (a.ga.n+k-a.ga.n) c));rw[show a.ga.st (a.ga.n+k) c=false from zju (u:=fun i=>a.ga.st i c) fun i h=>a.ga.stB i c h,zux];simp
 |.st a,n,j,⟨l,h1,h2⟩,hj=>by
  obtain⟨sv,rs,e1,e2,e3⟩:=h2.pos (show j<a.ga.n from hj);exact⟨sv,rs,e1,e2,e3⟩
 |.e,n,j,h,hj=>absurd hj (by simp[GT.ga,GA.eps])
def AlkN(X:Xs)(h c i:Nat):Prop:=∀(k:Nat) (y:BxD×GT) (j:Nat),X[k]?=some y->j<y.2.ga.n->y.2.at j<i->y.2.ga.st j h=y.2.ga.st j c
theorem zqj(hL:zjb X N):AlkN X h c N↔AlkB (bsX X) h c:=by
 constructor
 ·intro H k b i hb hi;rcases zuC k X.length with hk|hk
  ·have hx:=ztT hk;rw[zfw hx] at hb;cases hb;exact H k _ i hx hi (hL.lt k _ i hx hi)
  ·rw[zl0 hk] at hb;cases hb
 ·intro H k y j hy hj _;exact H k _ j (zfw hy) hj
theorem AlkN.skip(H:AlkN X h c i){x:NdX}(hx:Ns[i]?=some x)(hk:x.k≠115)(hA:∀(k:Nat) (y:BxD×GT) (j:Nat),X[k]?=some y->j<y.2.ga.n->∃sv,Ns[y.2.at j]?=some ⟨115,0,0,sv⟩):AlkN X h c (i+1):=by
 intro k y j hy hj hi;rcases zuC (y.2.at j) i with q|q
 ·exact H k y j hy hj q
 ·obtain⟨sv,e⟩:=hA k y j hy hj;rw[show y.2.at j=i by omega,hx] at e;cases e;exact absurd rfl hk
theorem AlkN.next(H:AlkN X h c i)(hL:zjb X N){k:Nat}{y:BxD×GT}{j:Nat}(hy:X[k]?=some y)(hj:j<y.2.ga.n)(hi:y.2.at j=i)(he:y.2.ga.st j h=y.2.ga.st j c):AlkN X h c (i+1):=by
 intro k' y' j' hy' hj' hi';rcases zuC (y'.2.at j') i with q|q
 ·exact H k' y' j' hy' hj' q
 ·obtain⟨rfl,rfl⟩:=hL.inj k k' y y' j j' hy hy' hj hj' (by omega);rw[hy] at hy';cases hy';exact he
theorem zsO(h:c<256):IntKind.u8.wrap (c:Int)=(c:Int):=by
 simp[IntKind.wrap,IntKind.bits,IntKind.signed];omega
def clsC(bs:List BrG)(c:Nat):List Int:=(List.range c).map fun x=>(clsG bs x:Int)
theorem zex(bs:List BrG)(c:Nat):(clsC bs c).length=c:=by simp[clsC]
theorem zjg(bs:List BrG)(c:Nat):clsC bs (c+1)=clsC bs c++[(clsG bs c:Int)]:=by simp[clsC,List.range_succ]
def hdsU(bs:List BrG)(c:Nat):List Nat:=zah (posG bs).length (posR bs) c
def btL(bs:List BrG)(c:Nat):Nat->List Int:=fun i=>if i=0 then clsC bs c else if i=1 then zav (hdsU bs c) else []
structure BtI(w0 w W:World)(nv bv:Value)(Ns:List NdX)(X:Xs)(v:Nat->Value)(l:Nat->List Int):Prop where
 box:W.heap[w.heap.size]?=some (.cells #[nv,bv] 45 (0,0))
 sp:SpX w0 W nv bv Ns X
 fam:Fam w.heap.size 2 W v l
 bl:Below w.heap.size w W
theorem BtI.call{w W W':World}{nv bv:Value}{v:Nat->Value}{l:Nat->List Int}(h:BtI w0 w W nv bv Ns X v l)(hb:Below W.heap.size W W'):BtI w0 w W' nv bv Ns X v l:=
 ⟨(hb.block _ (zae h.box)).trans h.box,h.sp.below hb,h.fam.below hb,zaa h.bl h.bl.size hb⟩
end
variable {w:World}{base sz n:Nat}{v:Value}{xs:List Value}
theorem zbB{w':World}{e:TypeId}(h:w.ownsRow base e sz v n xs)(hb:∀b,v.ownBlock=some b->w'.heap[b]?=w.heap[b]?):w'.ownsRow base e sz v n xs:=by
 obtain⟨h1,h2⟩:=h;refine⟨h1,?_⟩;rcases h2 with h0|⟨g,cap,cur,rfl,hg,hh,r⟩
 ·exact .inl h0
 ·exact .inr ⟨g,cap,cur,rfl,hg,(hb g rfl).trans hh,r⟩
theorem zbs{e:TypeId}(h:w.ownsRow base e sz v n xs){b:Nat}(hb:v.ownBlock=some b):base<=b/\b<w.heap.size:=by
 obtain⟨h1,h2⟩:=h;rcases h2 with ⟨rfl,_⟩|⟨g,cap,cur,rfl,hg,hh,r⟩
 ·simp[Value.ownBlock] at hb
 ·simp[Value.ownBlock] at hb;subst hb;exact⟨hg,(ztp.1 hh).1⟩
end Go.Proofs.YthddplbodacjgaaGreatDoor
