import Derived.Test.YthddplbodacjgaaGreatDoorC22
import Derived.MapKept
import Derived.Laws.StructEq
import Derived.Laws.Small
namespace Go.Proofs.YthddplbodacjgaaGreatDoor
set_option maxHeartbeats 2000000
set_option maxRecDepth 100000
section
variable {gt n:Nat}{v:Nat -> Value}{l:Nat -> List Int}
open Go.RowKit
attribute [local go_sem ↓] Go.wp_at_zero Go.wp_at_succ
theorem Fam.put{W:World}(h:Fam gt n W v l){i:Nat}(hi:i<n){g m cap:Nat}(hv:v i=.slice (some ⟨g,0,none⟩) m cap)(hm:(l i).length=m)(j:Nat)(y:Int):Fam gt n (W.setCell ⟨g,j,none⟩ (.int .i64 y)) v (updL l i ((l i).set j y)):=by
 refine⟨fun k hk=>?_,h.apart⟩
 by_cases e:k=i
 ·subst e;rw[zar];have ho:W.ownsRow (gt+1) 3 1 (.slice (some ⟨g,0,none⟩) m cap) m ((l k).map intV):=by have:=h.own k hi;unfold Owns at this;rw[hv,hm] at this;exact this
  have hs:=(ho.stored j (.int .i64 y)).1;unfold Owns;rw[hv,List.length_set,hm,List.map_set];exact hs
 ·rw[zaf _ _ e];refine zer (h.own k hk) fun b hb=>zuS _ _ _ _ (fun e2=>?_)
  have:(v i).ownBlock=some b:=by rw[hv];simp only[Value.ownBlock];rw[show g=b from e2.symm]
  exact h.apart k i hk hi e b hb this
theorem zbi{w:World}{g:Nat}{a b c:Value}{t:TypeId}(h:w.heap[g]?=some (.cells #[a,b,c] t (0,0))):w.cell? ⟨g,0,none⟩=some a/\w.cell? ⟨g,1,none⟩=some b/\w.cell? ⟨g,2,none⟩=some c:=⟨zcP h 0,zcP h 1,zcP h 2⟩
def zbG(o:List Nat)(xs:List Nat)(b:Nat):List Nat:=xs.foldl (fun o s=>o.set s b) o
theorem zb3(xs:List Nat)(b:Nat):∀o:List Nat,(zbG o xs b).length=o.length:=by
 induction xs with
 |nil=>intro o;rfl
 |cons x xs ih=>intro o;show (zbG (o.set x b) xs b).length=_;rw[ih];simp
theorem zfF(xs:List Nat)(b:Nat):∀(o:List Nat) (s:Nat),s<o.length->(zbG o xs b).getD s 0=if s∈xs then b else o.getD s 0:=by
 induction xs with
 |nil=>intro o s _;simp[zbG]
 |cons x xs ih=>
  intro o s hs;show (zbG (o.set x b) xs b).getD s 0=_;rw[ih _ s (by simpa using hs)]
  by_cases h1:s∈xs
  ·rw[zuV h1,zuV (by simp[h1])]
  ·rw[zuU h1]
   by_cases h2:s=x
   ·subst h2;rw[zuV (by simp),ztO,List.getElem?_set_self hs]
    rfl
   ·rw[zuU (by simp[h1,h2]),ztO,List.getElem?_set_ne (fun e=>h2 e.symm),<-ztO]
theorem zlC(o xs:List Nat)(x b:Nat):zbG o (xs++[x]) b=(zbG o xs b).set x b:=by simp[zbG]
theorem zdN{xs:List Nat}{j:Nat}(h:j<xs.length):xs.take (j+1)=xs.take j++[xs.getD j 0]:=by
 rw[ztO,ztT h,zut h]
 rfl
theorem zoE(l:List Nat)(i x:Nat):(zav l).set i (x:Int)=zav (l.set i x):=by simp[zav,List.map_set]
theorem ziz{N p:Nat}{mv:Value}(i b:Nat)(o xs:List Nat)(w:World)(hF:Fam gt N w v l)(hbox:w.heap[p]?=some (.cells #[v 0,mv,v 1] 187 (0,0)))(h0:0<N)(hi:i<N)(hi0:0<i)(hn:o.length=n)(hn0:0<n)(hl0:l 0=zav o)(hli:l i=zav xs)(hxs:∀s∈xs,s<n)(hx0:0<xs.length)(hxl:xs.length<=1000000)(sv:Value)(hsv:sv=v i):
  Calls Tryz.prog 113 #[.pointer (some ⟨p,0,none⟩),sv,.int .i64 (b:Int)] w fun e w'=>e=.returned (.tuple #[])/\Fam gt N w' v (updL l 0 (zav (zbG o xs b)))/\w.grownBy w' (v 0).ownBlock:=by
 subst hsv;have ho:=hF.own i hi;rw[hli] at ho;obtain⟨gs,cs,es,_,hgs,hcs⟩:=zbe ho (by rw[zag];exact hx0);rw[zag] at es hcs;have ho0:=hF.own 0 h0;rw[hl0] at ho0;obtain⟨go,co,e0,_,hgo,hco⟩:=zbe ho0 (by rw[zag];omega);rw[zag,hn] at e0;have hne:gs≠go:=fun e=>hF.apart i 0 hi h0 (by omega) gs (by rw[es];rfl) (by rw[e0,e];rfl)
 rw[es];have HA:Hid ((v 0).ownBlock=some go):=by show _=_;rw[e0];rfl
 rw[e0] at hbox;have He0:Hid _:=e0;have HF:Hid (Fam gt N w v (updL l 0 (zav (zbG o (xs.take 0) b)))):=hF.congr (fun _ _=>rfl) (fun k _=>by
  by_cases e:k=0
  ·subst e;rw[zar,hl0];rfl
  ·rw[zaf _ _ e])
 have hpl:=zae hbox;have hpn:p≠go:=fun e=>by
  subst e;obtain⟨cur,hc⟩:=za9 ho0 HA.out;rw[hbox] at hc;exact absurd (zap hc) (by decide)
 clear e0 es ho ho0 hF
 go_enter Tryz.func113,Tryz.ntmps113
 go_wp2
 go_loopw [10] (fun j wr=>∃k:Nat,k<=xs.length/\j=.int .i64 k/\Hid (Fam gt N wr v (updL l 0 (zav (zbG o (xs.take k) b))))/\w.grownBy wr (some go))
  (fun j _=>xs.length-(intOf j).toNat)
 case atStart=>exact⟨0,zuL _,rfl,HF.out,World.grownBy.refl _ _⟩
 case round=>
  clear HF;obtain⟨k,hk,rfl,HF,hg⟩:=hrel;have hb1:=(hg.block p hpl (by simpa using hpn)).trans hbox
  by_cases hlt:k<xs.length
  ·obtain⟨q0,q1,q2⟩:=zbi hb1;have c0:wr.cell? ⟨gs,k,none⟩=_:=(World.cell?_of_block (hg.block gs hgs (by simpa using hne))).trans (hcs k hlt);rw[zbw] at c0;have hsl:=hxs _ (za3 hlt);have hP:Hid _:=HF.out.put h0 He0.out (by rw[zar,zag,zb3,hn]) (xs.getD k 0) (b:Int);have ho1:=HF.out.own 0 h0;rw[zar] at ho1;obtain⟨go',co',e1,_,_,hc1⟩:=zbe ho1 (by rw[zag,zb3];omega);rw[He0.out,zag,zb3,hn] at e1;cases e1;have c1:=hc1 (xs.getD k 0) (by rw[zag,zb3,hn];exact hsl);obtain⟨cur,hcur⟩:=za9 ho1 HA.out;have f1:=zuQ _ _ (xs.getD k 0) _ _ hcur;have HT:Hid _:=zdN hlt;have hi1:(k:Int)<(xs.length:Int):=by omega
   have hi2:((xs.getD k 0:Nat):Int)<(n:Int):=by omega
   generalize (zav (zbG o (List.take k xs) b)).getD (xs.getD k 0) 0=old at *;generalize xs.getD k 0=s0 at *;clear hcur ho1 hc1;go_wp2
   go_roundw
   case rel=>
    refine⟨k+1,by omega,by go_num,?_,hg.trans (zaX _ _ _ _)⟩;refine hP.out.congr (fun _ _=>rfl) (fun j _=>?_)
    by_cases e:j=0
    ·subst e;rw[zar,zar,zar,HT.out,zlC,zoE]
    ·rw[zaf _ _ e,zaf _ _ e,zaf _ _ e]
   case measure=>simp[intOf];omega
  ·have hkk:k=xs.length:=by omega
   subst hkk;go_wp2
   go_end0
   refine⟨rfl,?_,by rw[HA.out];exact hg⟩;have:=HF.out;rw[zuq] at this;exact this
end
section
variable {n:Nat}{U work work' work0:Nat -> Prop}{sc:Nat -> Nat -> Nat}{of of' of0:Nat -> Nat}{gs:List (List Nat)}{g:List Nat}
def Hop(n:Nat)(U:Nat->Prop)(sc:Nat->Nat->Nat)(of:Nat->Nat)(work:Nat->Prop):Prop:=
 ∀s t k,s<n->t<n->U k->of s=of t->of (sc s k)≠of (sc t k)->work (of (sc s k))\/work (of (sc t k))
theorem Hop.cut{τ:Type}{B:Nat}{tr:Nat->τ}(h:Hop n U sc of work)(hcl:∀s k,s<n->U k->sc s k<n)
  (h1:∀s t,s<n->t<n->of' s=of' t->of s=of t/\tr s=tr t) (htr:∀s t,s<n->t<n->tr s=tr t->∀k,U k->(of (sc s k)=B↔of (sc t k)=B))
  (h3:∀s,s<n->of' s=of s\/work' (of' s)) (h4:∀b,work b->b≠B->work' b):Hop n U sc of' work':=by
 intro s t k hs ht hk e hne;obtain⟨e1,e2⟩:=h1 s t hs ht e;rcases h3 (sc s k) (hcl s k hs hk) with f1|f1
 ·rcases h3 (sc t k) (hcl t k ht hk) with f2|f2
  ·have hB:=htr s t hs ht e2 k hk;rw[f1,f2] at hne ⊢;rcases h s t k hs ht hk e1 hne with w|w
   ·by_cases eb:of (sc s k)=B
    ·exact absurd (eb.trans (hB.1 eb).symm) hne
    ·exact .inl (h4 _ w eb)
   ·by_cases eb:of (sc t k)=B
    ·exact absurd ((hB.2 eb).trans eb.symm) hne
    ·exact .inr (h4 _ w eb)
  ·exact .inr f2
 ·exact .inl f1
theorem zqF{st:Nat->Nat->Nat}{an:Nat->Int×Int}{cls:Nat->Nat}(h:Hop n U sc of work)(hw:∀b,¬work b)(hst:∀s c,st s c=sc s (cls c))(hU:∀c,c<256->U (cls c))(hcl:∀s k,s<n->U k->sc s k<n)
  (han:∀s t,s<n->t<n->of s=of t->an s=an t) {s t:Nat} (hs:s<n) (ht:t<n) (e:of s=of t):zbc st an s t:=by
 refine zlU (fun s t=>s<n/\t<n/\of s=of t) (fun s t ⟨a,b,c⟩=>han s t a b c) (fun s t c ⟨a,b,k⟩ hc=>?_) ⟨hs,ht,e⟩;rw[hst,hst];refine⟨hcl s _ a (hU c hc),hcl t _ b (hU c hc),?_⟩
 by_cases hne:of (sc s (cls c))=of (sc t (cls c))
 ·exact hne
 ·rcases h s t (cls c) a b (hU c hc) k hne with w|w
  ·exact absurd w (hw _)
  ·exact absurd w (hw _)
structure zgq(n:Nat)(of0 of:Nat->Nat)(work0 work:Nat->Prop)(gs:List (List Nat)):Prop where
 iff:∀s t,s<n->t<n->(of s=of t↔of0 s=of0 t/\∀g∈gs,(s∈g↔t∈g))
 num:∀s,s<n->of s=of0 s\/work (of s)
 up:∀b,work0 b->work b
theorem zgq.refl(n:Nat)(of:Nat->Nat)(work:Nat->Prop):zgq n of of work work []:=
 ⟨fun s t _ _=>by simp,fun _ _=>.inl rfl,fun _ h=>h⟩
theorem zgq.next(h:zgq n of0 of work0 work gs)(h1:∀s t,s<n->t<n->(of' s=of' t↔of s=of t/\(s∈g↔t∈g)))(h2:∀s,s<n->of' s=of s\/work' (of' s))(h3:∀b,work b->work' b):zgq n of0 of' work0 work' (gs++[g]):=by
 refine⟨fun s t hs ht=>?_,fun s hs=>?_,fun b hb=>h3 b (h.up b hb)⟩
 ·rw[h1 s t hs ht,h.iff s t hs ht];constructor
  ·rintro ⟨⟨a,b⟩,c⟩;exact⟨a,fun x hx=>by rcases zuc.1 hx with hx|hx;exact b x hx;simp at hx;subst hx;exact c⟩
  ·rintro ⟨a,b⟩;exact⟨⟨a,fun x hx=>b x (zuc.2 (.inl hx))⟩,b g (by simp)⟩
 ·rcases h2 s hs with e|e
  ·rcases h.num s hs with k|k
   ·exact .inl (e.trans k)
   ·exact .inr (by rw[e];exact h3 _ k)
  ·exact .inr e
theorem zgq.same(h:zgq n of0 of work0 work gs){s t:Nat}(hs:s<n)(ht:t<n)(e:of0 s=of0 t)(hg:∀g∈gs,(s∈g↔t∈g)):of s=of t:=(h.iff s t hs ht).2 ⟨e,hg⟩
def zmp(of:Nat->Nat)(X:List Nat)(m:Nat)(s:Nat):Nat:=if s∈X then m else of s
theorem zq7{m:Nat}{X:List Nat}{b:Nat}(hm:∀s,s<n->of s<m)(hg:∀s∈g,of s=b)(hX:(∀s,s<n->(s∈X↔s∈g))\/(∀s,s<n->(s∈X↔of s=b/\s∉g))){s t:Nat}(hs:s<n)(ht:t<n):
  zmp of X m s=zmp of X m t↔of s=of t/\(s∈g↔t∈g):=by
 have a:=hm s hs;have c:=hm t ht;unfold zmp;rcases hX with hX|hX
 ·have hs1:=hX s hs;have ht1:=hX t ht
  by_cases h1:s∈X<;>by_cases h2:t∈X
  ·rw[zuV h1,zuV h2];have k1:=hs1.1 h1;have k2:=ht1.1 h2;exact⟨fun _=>⟨(hg s k1).trans (hg t k2).symm,⟨fun _=>k2,fun _=>k1⟩⟩,fun _=>rfl⟩
  ·rw[zuV h1,zuU h2];exact⟨fun e=>by omega,fun⟨_,e⟩=>absurd (ht1.2 (e.1 (hs1.1 h1))) h2⟩
  ·rw[zuU h1,zuV h2];exact⟨fun e=>by omega,fun⟨_,e⟩=>absurd (hs1.2 (e.2 (ht1.1 h2))) h1⟩
  ·rw[zuU h1,zuU h2];exact⟨fun e=>⟨e,⟨fun k=>absurd (hs1.2 k) h1,fun k=>absurd (ht1.2 k) h2⟩⟩,fun e=>e.1⟩
 ·have hs1:=hX s hs;have ht1:=hX t ht
  by_cases h1:s∈X<;>by_cases h2:t∈X
  ·rw[zuV h1,zuV h2];have k1:=hs1.1 h1;have k2:=ht1.1 h2;exact⟨fun _=>⟨k1.1.trans k2.1.symm,⟨fun k=>absurd k k1.2,fun k=>absurd k k2.2⟩⟩,fun _=>rfl⟩
  ·rw[zuV h1,zuU h2];have k1:=hs1.1 h1;exact⟨fun e=>by omega,fun⟨e,f⟩=>absurd (ht1.2 ⟨e ▸ k1.1,fun k=>k1.2 (f.2 k)⟩) h2⟩
  ·rw[zuU h1,zuV h2];have k2:=ht1.1 h2;exact⟨fun e=>by omega,fun⟨e,f⟩=>absurd (hs1.2 ⟨e.trans k2.1,fun k=>k2.2 (f.1 k)⟩) h1⟩
  ·rw[zuU h1,zuU h2];refine⟨fun e=>⟨e,⟨fun k=>?_,fun k=>?_⟩⟩,fun e=>e.1⟩
   ·by_cases k2:t∈g
    ·exact k2
    ·exact absurd (ht1.2 ⟨e ▸ hg s k,k2⟩) h2
   ·by_cases k2:s∈g
    ·exact k2
    ·exact absurd (hs1.2 ⟨e.trans (hg t k),k2⟩) h1
end
section
open Go.RowKit
def mvL(v:Nat->Value)(mi:Nat->Nat)(m:Nat):List Value:=(List.range m).map fun x=>v (mi x)
theorem zk9(v:Nat->Value)(mi:Nat->Nat)(m:Nat):(mvL v mi m).length=m:=by simp[mvL]
theorem ziG(v:Nat->Value)(mi:Nat->Nat){m x:Nat}(h:x<m):(mvL v mi m)[x]?=some (v (mi x)):=by simp[mvL,h]
theorem zdK{v v':Nat->Value}{mi mi':Nat->Nat}{m:Nat}(h:∀x,x<m->v (mi x)=v' (mi' x)):mvL v mi m=mvL v' mi' m:=zua fun x hx=>h x (by simpa using hx)
theorem zq2(v:Nat->Value)(mi:Nat->Nat)(m:Nat):mvL v mi (m+1)=mvL v mi m++[v (mi m)]:=by simp[mvL,List.range_succ]
def updI(f:Nat->Nat)(x y:Nat):Nat->Nat:=fun z=>if z=x then y else f z
theorem zsr(v:Nat->Value)(mi:Nat->Nat)(m b i:Nat):(mvL v mi m).set b (v i)=mvL v (updI mi b i) m:=by
 apply ztL
 intro j;rw[ztX]
 by_cases hj:j<m
 ·rw[ziG v mi hj,ziG v _ hj,zk9];unfold updI
  by_cases e:b=j
  ·rw[zuV e,zuV (by omega),zuV e.symm]
  ·rw[zuU e,zuU (fun h=>e h.symm)]
 ·have h1:∀f:Nat->Nat,(mvL v f m)[j]?=none:=fun f=>ztU (by rw[zk9];omega)
  rw[h1,h1,zk9]
  by_cases e:b=j
  ·rw[zuV e,zuU (by omega)]
  ·rw[zuU e]
structure PtS(gt:Nat)(W:World)(p:Nat)(mv:Value)(m:Nat)(mi:Nat->Nat)(v:Nat->Value)(l:Nat->List Int)(N:Nat)(o wk:List Nat)(mem:Nat->List Nat):Prop where
 fam:Fam gt N W v l
 two:2<=N
 box:W.heap[p]?=some (.cells #[v 0,mv,v 1] 187 (0,0))
 pge:gt+1<=p
 out:W.ownsRow (gt+1) 24 1 mv m (mvL v mi m)
 idx:∀x,x<m->2<=mi x/\mi x<N
 l0:l 0=zav o
 l1:l 1=zav wk
 lm:∀x,x<m->l (mi x)=zav (mem x)
def KpP(g:Nat)(W W':World):Prop:=∀(b:Nat) (cs:Array Value) (e:TypeId),e≠3->e≠187->b≠g->W.heap[b]?=some (.cells cs e (0,0))->W'.heap[b]?=some (.cells cs e (0,0))
theorem KpP.refl(g:Nat)(W:World):KpP g W W:=fun _ _ _ _ _ _ h=>h
theorem KpP.trans{g:Nat}{A B C:World}(h:KpP g A B)(k:KpP g B C):KpP g A C:=fun b cs e h1 h2 h3 hb=>k b cs e h1 h2 h3 (h b cs e h1 h2 h3 hb)
theorem KpP.chain{g g':Nat}{A B C:World}(h:KpP g A B)(hg:g'=g\/A.heap.size<=g')(k:KpP g' B C):KpP g A C:=fun b cs e h1 h2 h3 hb=>k b cs e h1 h2 (fun e2=>by have:=zae hb;rcases hg with k1|k1<;>omega) (h b cs e h1 h2 h3 hb)
theorem KpP.below{g:Nat}{A B:World}(h:Below A.heap.size A B):KpP g A B:=fun _ _ _ _ _ _ hb=>zab hb h
theorem KpP.set{g:Nat}{A:World}{q j:Nat}{u:Value}{cs:Array Value}{e:TypeId}(hg:A.heap[q]?=some (.cells cs e (0,0)))(he:e=3\/e=187\/q=g):KpP g A (A.setCell ⟨q,j,none⟩ u):=fun b cs' e' h1 h2 h3 hb=>by
 refine(zuS _ _ _ _ (fun e2=>?_)).trans hb;have e3:b=q:=e2;subst e3;rw[hg] at hb;have:=zap hb;rcases he with k|k|k
 ·exact h1 (this.symm.trans k)
 ·exact h2 (this.symm.trans k)
 ·exact h3 k
theorem KpP.grown{g:Nat}{A B:World}{row:Option Nat}(h:A.grownBy B row)(hr:∀q,row=some q->(∃cs,A.heap[q]?=some (.cells cs 3 (0,0)))\/q=g):KpP g A B:=fun b cs e h1 h2 h3 hb=>by
 refine(h.block b (zae hb) (fun e2=>?_)).trans hb;rcases hr b e2.symm with ⟨cs',hc⟩|k
 ·rw[hc] at hb;exact h1 (zap hb).symm
 ·exact h3 k
theorem KpP.fam{g gt n:Nat}{W W':World}{v:Nat->Value}{l:Nat->List Int}(h:Fam gt n W v l){i:Nat}(hi:i<n)(hg:W.grownBy W' (v i).ownBlock):KpP g W W':=KpP.grown hg fun _ e=>by
 obtain⟨cs,hc⟩:=za9 (h.own i hi) e;exact .inl ⟨cs,hc⟩
section
variable {gt:Nat} {W W':World} {p:Nat} {mv:Value} {m:Nat} {mi:Nat->Nat} {v:Nat->Value} {l:Nat->List Int} {N:Nat} {o wk:List Nat} {mem:Nat->List Nat}
theorem PtS.size(h:PtS gt W p mv m mi v l N o wk mem):gt+1<=W.heap.size:=by have:=zae h.box;have:=h.pge;omega
theorem PtS.on(h:PtS gt W p mv m mi v l N o wk mem)(hb:Below W.heap.size W W'):PtS gt W' p mv m mi v l N o wk mem:=
 ⟨h.fam.below hb,h.two,zab h.box hb,h.pge,zad h.out hb,h.idx,h.l0,h.l1,h.lm⟩
theorem PtS.row(h:PtS gt W p mv m mi v l N o wk mem){i:Nat}(hi:i<N)(h2:2<=i)(hne:∀x,x<m->mi x≠i){u:Value}{ys:List Int}(hF:Fam gt N W' (upd v i u) (updL l i ys))(hg:W.grownBy W' (v i).ownBlock):PtS gt W' p mv m mi (upd v i u) (updL l i ys) N o wk mem:=by
 refine⟨hF,h.two,?_,h.pge,?_,h.idx,by rw[zaf _ _ (by omega)];exact h.l0,by rw[zaf _ _ (by omega)];exact h.l1,fun x hx=>by rw[zaf _ _ (hne x hx)];exact h.lm x hx⟩
 ·rw[zaD _ _ (by omega),zaD _ _ (by omega)];exact h.fam.others hi hg (by decide) h.box
 ·rw[zdK (v':=v) (mi':=mi) (fun x hx=>zaD _ _ (hne x hx))];exact zdL h.fam hi hg h.out
theorem PtS.new(h:PtS gt W p mv m mi v l N o wk mem):PtS gt (W.alloc (.cells #[] 3)) p mv m mi (upd v N (.slice (some ⟨W.heap.size,0,none⟩) 0 0)) (updL l N []) (N+1) o wk mem:=by
 have hb:Below W.heap.size W (W.alloc (.cells #[] 3)):=(Below.refl _ _).alloc (zuz _) _;have h2:=h.two;refine⟨h.fam.new h.size,by omega,?_,h.pge,?_,fun x hx=>⟨(h.idx x hx).1,by have:=(h.idx x hx).2;omega⟩,by rw[zaf _ _ (by omega)];exact h.l0,by rw[zaf _ _ (by omega)];exact h.l1,fun x hx=>by rw[zaf _ _ (by have:=(h.idx x hx).2;omega)];exact h.lm x hx⟩
 ·rw[zaD _ _ (by omega),zaD _ _ (by omega)];exact zab h.box hb
 ·rw[zdK (v':=v) (mi':=mi) (fun x hx=>zaD _ _ (by have:=(h.idx x hx).2;omega))];exact zad h.out hb
theorem PtS.label(h:PtS gt W p mv m mi v l N o wk mem){o':List Nat}(hF:Fam gt N W' v (updL l 0 (zav o')))(hg:W.grownBy W' (v 0).ownBlock):PtS gt W' p mv m mi v (updL l 0 (zav o')) N o' wk mem:=by
 have h2:=h.two;refine⟨hF,h2,h.fam.others (i:=0) (by omega) hg (by decide) h.box,h.pge,zdL h.fam (i:=0) (by omega) hg h.out,h.idx,zar _ _ _,by rw[zaf _ _ (by omega)];exact h.l1,fun x hx=>by rw[zaf _ _ (by have:=(h.idx x hx).1;omega)];exact h.lm x hx⟩
theorem PtS.member{g cap:Nat}(h:PtS gt W p (.slice (some ⟨g,0,none⟩) m cap) m mi v l N o wk mem){b i:Nat}(hi:2<=i/\i<N){ys:List Nat}(hl:l i=zav ys):PtS gt (W.setCell ⟨g,b,none⟩ (v i)) p (.slice (some ⟨g,0,none⟩) m cap) m (updI mi b i) v l N o wk (fun x=>if x=b then ys else mem x):=by
 obtain⟨cur,hc⟩:=zbo h.out;have hgr:=zaX W g b (v i);refine⟨h.fam.other hc (by decide) hgr,h.two,?_,h.pge,?_,fun x hx=>?_,h.l0,h.l1,fun x hx=>?_⟩
 ·refine(hgr.block p (zae h.box) (fun e=>?_)).trans h.box;have e2:p=g:=Option.some.inj e;have hb:=h.box;rw[e2,hc] at hb;exact absurd (zap hb) (by decide)
 ·have:=(h.out.stored b (v i)).1;rw[zsr] at this;exact this
 ·unfold updI
  by_cases e:x=b
  ·rw[zuV e];exact hi
  ·rw[zuU e];exact h.idx x hx
 ·unfold updI
  by_cases e:x=b
  ·rw[zuV e,zuV e];exact hl
  ·rw[zuU e,zuU e];exact h.lm x hx
theorem PtS.members{g cap g' cap':Nat}(h:PtS gt W p (.slice (some ⟨g,0,none⟩) m cap) m mi v l N o wk mem){i:Nat}(hi:2<=i/\i<N){ys:List Nat}(hl:l i=zav ys)(hg:W.grownBy W' (some g))(ho:W'.ownsRow (gt+1) 24 1 (.slice (some ⟨g',0,none⟩) (m+1) cap') (m+1) (mvL v mi m++[v i])):
  W'.heap[p]?=some (.cells #[v 0,.slice (some ⟨g,0,none⟩) m cap,v 1] 187 (0,0))/\PtS gt (W'.setCell ⟨p,1,none⟩ (.slice (some ⟨g',0,none⟩) (m+1) cap')) p (.slice (some ⟨g',0,none⟩) (m+1) cap') (m+1) (updI mi m i) v l N o wk (fun x=>if x=m then ys else mem x):=by
 obtain⟨cur,hc⟩:=zbo h.out;have hbx:W'.heap[p]?=some (.cells #[v 0,.slice (some ⟨g,0,none⟩) m cap,v 1] 187 (0,0)):=by
  refine(hg.block p (zae h.box) (fun e=>?_)).trans h.box;have e2:p=g:=Option.some.inj e;have hb:=h.box;rw[e2,hc] at hb;exact absurd (zap hb) (by decide)
 have hF':=h.fam.other hc (by decide) hg;have hgp:=zaX W' p 1 (.slice (some ⟨g',0,none⟩) (m+1) cap');refine⟨hbx,hF'.other hbx (by decide) hgp,h.two,zuT _ _ _ _ _ _ hbx,h.pge,?_,fun x hx=>?_,h.l0,h.l1,fun x hx=>?_⟩
 ·rw[zq2,zdK (v':=v) (mi':=mi) (fun x hx=>by unfold updI;rw[zuU (by omega)])];have e:updI mi m i m=i:=by unfold updI;rw[zuV rfl]
  rw[e];exact za6 ho fun b cs hb=>(hgp.block b (zae hb) (fun e=>by
   have e2:b=p:=Option.some.inj e;rw[e2,hbx] at hb;exact absurd (zap hb) (by decide))).trans hb
 ·unfold updI
  by_cases e:x=m
  ·rw[zuV e];exact hi
  ·rw[zuU e];exact h.idx x (by omega)
 ·unfold updI
  by_cases e:x=m
  ·rw[zuV e,zuV e];exact hl
  ·rw[zuU e,zuU e];exact h.lm x (by omega)
theorem PtS.work(h:PtS gt W p mv m mi v l N o wk mem){u:Value}{wk':List Nat}(hF:Fam gt N W' (upd v 1 u) (updL l 1 (zav wk')))(hg:W.grownBy W' (v 1).ownBlock):
  W'.heap[p]?=some (.cells #[v 0,mv,v 1] 187 (0,0))/\PtS gt (W'.setCell ⟨p,2,none⟩ u) p mv m mi (upd v 1 u) (updL l 1 (zav wk')) N o wk' mem:=by
 have h2:=h.two;have hbx:=h.fam.others (i:=1) (by omega) hg (by decide) h.box;have hgp:=zaX W' p 2 u;refine⟨hbx,hF.other hbx (by decide) hgp,h2,?_,h.pge,?_,h.idx,by rw[zaf _ _ (by omega)];exact h.l0,zar _ _ _,fun x hx=>by rw[zaf _ _ (by have:=(h.idx x hx).1;omega)];exact h.lm x hx⟩
 ·rw[zaD _ _ (by omega),zaH];exact zuT _ _ _ _ _ _ hbx
 ·rw[zdK (v':=v) (mi':=mi) (fun x hx=>zaD _ _ (by have:=(h.idx x hx).1;omega))];exact za6 (zdL h.fam (i:=1) (by omega) hg h.out) fun b cs hb=>(hgp.block b (zae hb) (fun e=>by
   have e2:b=p:=Option.some.inj e;rw[e2,hbx] at hb;exact absurd (zap hb) (by decide))).trans hb
end
end
section
variable {n m:Nat}{o wk:List Nat}{mem:Nat -> List Nat}
open Go.RowKit
structure PtM(n m:Nat)(o wk:List Nat)(mem:Nat->List Nat):Prop where
 ln:o.length=n
 lt:∀s,s<n->o.getD s 0<m
 mm:∀x,x<m->∀s,s∈mem x↔s<n/\o.getD s 0=x
 nd:∀x,x<m->(mem x).Nodup
 ne:∀x,x<m->0<(mem x).length
 wl:∀b∈wk,b<m
theorem ze7:∀(l M:List Nat),l.Nodup->(∀x∈l,x∈M)->l.length<=M.length
 |[],_,_,_=>zuL _
 |x::l,M,hn,hs=>by
  have hx:=hs x (by simp);have h1:∀y∈l,y∈M.erase x:=fun y hy=>by
   have hne:y≠x:=fun e=>by subst e;exact(zul.1 hn).1 hy
   exact(List.mem_erase_of_ne hne).2 (hs y (by simp[hy]))
  have ih:=ze7 l (M.erase x) (zul.1 hn).2 h1;have:=List.length_erase_of_mem hx;have:=List.length_pos_of_mem hx;simp only[zt2];omega
theorem zoV{l M:List Nat}(hn:l.Nodup)(hs:∀x∈l,x∈M)(hl:M.length<=l.length):∀x∈M,x∈l:=fun x hx=>by
 by_cases h:x∈l
 ·exact h
 ·have:=ze7 (x::l) M (zul.2 ⟨h,hn⟩) (fun y hy=>by rcases zud.1 hy with e|e;exact e ▸ hx;exact hs y e);simp only[zt2] at this;omega
theorem PtM.le(h:PtM n m o wk mem):m<=n:=by
 have hh:∀x,x<m->(mem x).getD 0 0∈mem x:=fun x hx=>za3 (h.ne x hx)
 have hp:((List.range m).map fun x=>(mem x).getD 0 0).Nodup:=by
  rw[List.nodup_iff_pairwise_ne,List.pairwise_map];refine List.Pairwise.imp_of_mem ?_ (List.nodup_iff_pairwise_ne.1 List.nodup_range);intro a b ha hb hne e;have ha':a<m:=by simpa using ha
  have hb':b<m:=by simpa using hb
  have h1:=((h.mm a ha' _).1 (hh a ha')).2;have h2:=((h.mm b hb' _).1 (hh b hb')).2;rw[e] at h1;exact hne (h1.symm.trans h2)
 have:=zb2 n _ hp (fun x hx=>by
  obtain⟨y,hy,rfl⟩:=zug.1 hx;have hy':y<m:=by simpa using hy
  exact((h.mm y hy' _).1 (hh y hy')).1)
 simpa using this
theorem PtM.split(h:PtM n m o wk mem){b:Nat}(hb:b<m){X Y o':List Nat}(hX:X.Nodup)(hY:Y.Nodup)(hX0:0<X.length)(hY0:0<Y.length)(hu:∀s,s∈mem b↔s∈X\/s∈Y)(hd:∀s,s∈X->s∉Y)(hl:o'.length=n)(ho:∀s,s<n->o'.getD s 0=if s∈X then m else o.getD s 0):
  PtM n (m+1) o' (wk++[m]) (fun x=>if x=m then X else if x=b then Y else mem x):=by
 have hXn:∀s∈X,s<n/\o.getD s 0=b:=fun s hs=>(h.mm b hb s).1 ((hu s).2 (.inl hs))
 have hYn:∀s∈Y,s<n/\o.getD s 0=b:=fun s hs=>(h.mm b hb s).1 ((hu s).2 (.inr hs))
 refine⟨hl,fun s hs=>?_,fun x hx s=>?_,fun x hx=>?_,fun x hx=>?_,fun c hc=>?_⟩
 ·rw[ho s hs];have:=h.lt s hs;split<;>omega
 ·by_cases e1:x=m
  ·subst e1;simp only[zuV];constructor
   ·intro hs;exact⟨(hXn s hs).1,by rw[ho s (hXn s hs).1,zuV hs]⟩
   ·rintro ⟨h1,h2⟩;rw[ho s h1] at h2
    by_cases hs:s∈X
    ·exact hs
    ·rw[zuU hs] at h2;have:=h.lt s h1;omega
  ·simp only[zuU e1]
   by_cases e2:x=b
   ·subst e2;simp only[zuV];constructor
    ·intro hs;have hn:=hYn s hs;exact⟨hn.1,by rw[ho s hn.1,zuU (fun k=>hd s k hs)];exact hn.2⟩
    ·rintro ⟨h1,h2⟩;rw[ho s h1] at h2
     by_cases hs:s∈X
     ·rw[zuV hs] at h2;omega
     ·rw[zuU hs] at h2;exact((hu s).1 ((h.mm x hb s).2 ⟨h1,h2⟩)).resolve_left hs
   ·simp only[zuU e2];rw[h.mm x (by omega) s];constructor
    ·rintro ⟨h1,h2⟩;exact⟨h1,by rw[ho s h1,zuU (fun k=>e2 (h2.symm.trans (hXn s k).2))];exact h2⟩
    ·rintro ⟨h1,h2⟩;rw[ho s h1] at h2
     by_cases hs:s∈X
     ·rw[zuV hs] at h2;omega
     ·rw[zuU hs] at h2;exact⟨h1,h2⟩
 ·by_cases e1:x=m
  ·simp only[zuV e1];exact hX
  ·simp only[zuU e1]
   by_cases e2:x=b
   ·simp only[zuV e2];exact hY
   ·simp only[zuU e2];exact h.nd x (by omega)
 ·by_cases e1:x=m
  ·simp only[zuV e1];exact hX0
  ·simp only[zuU e1]
   by_cases e2:x=b
   ·simp only[zuV e2];exact hY0
   ·simp only[zuU e2];exact h.ne x (by omega)
 ·rcases zuc.1 hc with k|k
  ·have:=h.wl c k;omega
  ·have:c=m:=by simpa using k
   omega
structure SpM(n:Nat)(m:Nat)(o wk:List Nat)(m':Nat)(o' wk':List Nat)(grp:List Nat):Prop where
 iff:∀s t,s<n->t<n->(o'.getD s 0=o'.getD t 0↔o.getD s 0=o.getD t 0/\(s∈grp↔t∈grp))
 num:∀s,s<n->o'.getD s 0=o.getD s 0\/o'.getD s 0∈wk'
 up:∀b∈wk,b∈wk'
 le:m<=m'
 wl:wk'.length+m=wk.length+m'
def SpR(gt:Nat)(W:World)(p n m g:Nat)(v:Nat->Value)(l:Nat->List Int)(N:Nat)(o wk grp:List Nat)(e:Ending)(w':World):Prop:=
 e=.returned (.tuple #[])/\∃g' c' m' mi' v' l' N' o' wk' mem',PtS gt w' p (.slice (some ⟨g',0,none⟩) m' c') m' mi' v' l' N' o' wk' mem'/\PtM n m' o' wk' mem'/\SpM n m o wk m' o' wk' grp/\N<=N'/\(∀i,2<=i->i<N->v' i=v i/\l' i=l i)/\Below (gt+1) W w'/\KpP g W w'/\(g'=g\/W.heap.size<=g')
theorem SpM.whole(h:PtM n m o wk mem){b:Nat}(hb:b<m){grp:List Nat}(hn:grp.Nodup)(hg:∀s∈grp,s∈mem b)(hl:(mem b).length=grp.length):SpM n m o wk m o wk grp:=by
 have hall:=zoV hn hg (by omega);refine⟨fun s t hs ht=>⟨fun e=>⟨e,?_⟩,fun e=>e.1⟩,fun _ _=>.inl rfl,fun _ k=>k,zuz _,rfl⟩;have key:∀s,s<n->(s∈grp↔o.getD s 0=b):=fun s hs=>⟨fun k=>((h.mm b hb s).1 (hg s k)).2,fun k=>hall s ((h.mm b hb s).2 ⟨hs,k⟩)⟩
 rw[key s hs,key t ht,e]
theorem SpM.part(h:PtM n m o wk mem){b:Nat}(hb:b<m){grp X o':List Nat}(hg:∀s∈grp,s∈mem b)(hX:(∀s,s<n->(s∈X↔s∈grp))\/(∀s,s<n->(s∈X↔o.getD s 0=b/\s∉grp)))(ho:∀s,s<n->o'.getD s 0=if s∈X then m else o.getD s 0):SpM n m o wk (m+1) o' (wk++[m]) grp:=by
 refine⟨fun s t hs ht=>?_,fun s hs=>?_,fun c hc=>by simp[hc],by omega,by simp;omega⟩
 ·have:=zq7 (of:=fun s=>o.getD s 0) h.lt (fun s hs=>((h.mm b hb s).1 (hg s hs)).2) hX hs ht;unfold zmp at this;rw[ho s hs,ho t ht];exact this
 ·rw[ho s hs]
  by_cases k:s∈X
  ·rw[zuV k];exact .inr (by simp)
  ·rw[zuU k];exact .inl rfl
end
variable {P:Program}
open Go.RowKit
attribute [local go_sem ↓] Go.wp_at_zero Go.wp_at_succ
abbrev Tr:=Nat×Nat×Nat×Nat×Nat
def trC(t:Tr):Array Value:=#[.int .u64 (t.1:Int),.int .u64 (t.2.1:Int),.int .u64 (t.2.2.1:Int),.int .u64 (t.2.2.2.1:Int),.int .u64 (t.2.2.2.2:Int)]
def trV(t:Tr):Value:=.agg (trC t)
theorem ztk(s t:Tr):((s.1:Int)==(t.1:Int)&&((s.2.1:Int)==(t.2.1:Int)&&((s.2.2.1:Int)==(t.2.2.1:Int)&&((s.2.2.2.1:Int)==(t.2.2.2.1:Int)&&(s.2.2.2.2:Int)==(t.2.2.2.2:Int)))))=decide (s=t):=by
 obtain⟨a,b,c,d,e⟩:=s;obtain⟨a',b',c',d',e'⟩:=t
 by_cases h:(a,b,c,d,e)=(a',b',c',d',e')
 ·rw[decide_eq_true h];simp only[Prod.mk.injEq] at h;simp[h]
 ·rw[decide_eq_false h];simp only[Prod.mk.injEq] at h;simp only[Bool.and_eq_false_iff,zuM,ne_eq];omega
theorem Tryz.eqTr(s t:Tr)(w:World):(Op.equalIn 10000 192 (trV s) (trV t)).run Tryz.prog w=.ok (decide (s=t)) w:=by
 have u3:=Tryz.underlying180;have a3:=Tryz.isAgg180;have z3:=Tryz.sizeOf180;rw[<-ztk];unfold trV trC;rw[show (10000:Nat)=9999+1 from rfl,Op.equalIn];simp only[Sem.run_bind,run_underlying Tryz.underlying192,Result.andThen_ok];simp only[Std.Legacy.Range.forIn_eq_forIn_range',Std.Legacy.Range.size,Nat.sub_zero,zuw,Nat.div_one,List.range'_succ,List.range'_zero,List.forIn_cons,List.forIn_nil]
 go_simp
 by_cases h1:(s.1:Int)=(t.1:Int)<;>by_cases h2:(s.2.1:Int)=(t.2.1:Int)<;>by_cases h3:(s.2.2.1:Int)=(t.2.2.1:Int)<;>by_cases h4:(s.2.2.2.1:Int)=(t.2.2.2.1:Int)<;>by_cases h5:(s.2.2.2.2:Int)=(t.2.2.2.2:Int)<;>simp[h1,h2,h3,h4,h5]
theorem Tryz.checkTr(e:Bool)(t:Tr)(w:World):(Instr.checkKey e 10000 192 (trV t)).run Tryz.prog w=.ok () w:=by
 have u3:=Tryz.underlying180;have a3:=Tryz.isAgg180;have z3:=Tryz.sizeOf180;have hk:∀x:Int,(Instr.checkKey e 9999 180 (.int .u64 x)).run Tryz.prog w=.ok () w:=fun x=>MapKept.run_checkKey Tryz.underlying180 (by simp[MapKept.IsKey]) e 9998
 unfold trV trC;rw[show (10000:Nat)=9999+1 from rfl,Instr.checkKey];simp only[Sem.run_bind,run_underlying Tryz.underlying192,Result.andThen_ok];simp only[Std.Legacy.Range.forIn_eq_forIn_range',Std.Legacy.Range.size,Nat.sub_zero,zuw,Nat.div_one,List.range'_succ,List.range'_zero,List.forIn_cons,List.forIn_nil]
 go_simp
def regL{κ:Type}(enc:κ->Value)(ks:List κ):List MapEntry:=ks.zipIdx.map fun x=>{key:=enc x.1,val:=.int .i64 (x.2:Int),born:=x.2}
def regE{κ:Type}(enc:κ->Value)(ks:List κ):Array MapEntry:=(regL enc ks).toArray
theorem zpg{κ:Type}(enc:κ->Value)(ks:List κ)(k:κ):regL enc (ks++[k])=regL enc ks++[{key:=enc k,val:=.int .i64 (ks.length:Int),born:=ks.length}]:=by simp[regL,List.zipIdx_append]
theorem zpf{κ:Type}(enc:κ->Value)(ks:List κ)(k:κ):(regE enc ks).push {key:=enc k,val:=.int .i64 (ks.length:Int),born:=ks.length}=regE enc (ks++[k]):=by
 unfold regE;rw[zpg];simp
theorem zj2{κ:Type}(enc:κ->Value)(ks:List κ):(regE enc ks).size=ks.length:=by simp[regE,regL]
def idxR{κ:Type} [DecidableEq κ] (ks:List κ)(k:κ):Nat:=ks.findIdx fun x=>decide (k=x)
def zeJ{κ:Type} [DecidableEq κ] (ks:List κ)(k:κ):Option (Nat×Value):=if idxR ks k<ks.length then some (idxR ks k,.int .i64 (idxR ks k:Int)) else none
theorem zcr{κ:Type} [DecidableEq κ] {ks:List κ}{k:κ}:idxR ks k<ks.length↔k∈ks:=by
 unfold idxR;rw[List.findIdx_lt_length];exact⟨fun⟨x,h1,h2⟩=>(of_decide_eq_true h2) ▸ h1,fun h=>⟨k,h,by simp⟩⟩
theorem zsj{κ:Type} [DecidableEq κ] (ks:List κ)(k:κ):idxR ks k<=ks.length:=ztN
theorem zqH{κ:Type} [DecidableEq κ] {ks:List κ}{k:κ}(h:k∈ks):ks[idxR ks k]?=some k:=by
 have hl:=zcr.2 h;rw[ztT hl];have:=List.findIdx_getElem (w:=hl);exact congrArg some (of_decide_eq_true this).symm
theorem zru{kt:TypeId}{κ:Type} [DecidableEq κ] (enc:κ->Value)(w:World)(heq:∀a b:κ,(Op.equal kt (enc a) (enc b)).run P w=.ok (decide (a=b)) w)(k:κ):∀(ks:List κ) (i:Nat),(Instr.findAsking kt (enc k) ((ks.zipIdx i).map fun x=>{key:=enc x.1,val:=.int .i64 (x.2:Int),born:=x.2}) i).run P w=.ok (if idxR ks k<ks.length then some (i+idxR ks k,.int .i64 ((i+idxR ks k:Nat):Int)) else none) w
 |[],i=>by simp[Instr.findAsking,idxR]
 |x::ks,i=>by
  rw[List.zipIdx_cons,zub];unfold Instr.findAsking;simp only[Sem.run_bind,heq,Result.andThen_ok]
  by_cases e:k=x
  ·subst e;have h0:idxR (k::ks) k=0:=by simp[idxR,List.findIdx_cons]
   rw[h0];simp
  ·have h1:idxR (x::ks) k=idxR ks k+1:=by simp[idxR,List.findIdx_cons,e]
   have ih:=zru enc w heq k ks (i+1);rw[decide_eq_false e,h1];simp only[Bool.false_eq_true,if_false];rw[ih];simp only[zt2,Nat.add_lt_add_iff_right];rw[show i+1+idxR ks k=i+(idxR ks k+1) by omega]
theorem zqx{kt:TypeId}{d:TypeDesc}{κ:Type} [DecidableEq κ] (enc:κ->Value)(w:World)(hu:P.underlying kt=some d)(hsame:∀a b:κ,Instr.sameNow d (enc a) (enc b)=none)(heq:∀a b:κ,(Op.equal kt (enc a) (enc b)).run P w=.ok (decide (a=b)) w)(ks:List κ)(k:κ):
  (Instr.findKey kt (enc k) (regL enc ks)).run P w=.ok (zeJ ks k) w:=by
 have hf:(Instr.findAsking kt (enc k) (regL enc ks)).run P w=.ok (zeJ ks k) w:=by
  have:=zru enc w heq k ks 0;simp only[zuK] at this;exact this
 unfold Instr.findKey;simp only[Sem.run_bind,run_underlying hu,Result.andThen_ok];cases ks with
 |nil=>simp[regL,Instr.findNow,zeJ]
 |cons x ks=>
  have:Instr.findNow d (enc k) (regL enc (x::ks)) 0=none:=by simp[regL,List.zipIdx_cons,Instr.findNow,hsame]
  rw[this];exact hf
theorem zmu{mt kt et:TypeId}{κ:Type} [DecidableEq κ] (enc:κ->Value)(w:World)(hm:P.underlying mt=some (.map kt et))(hc:∀(e:Bool) (k:κ),(Instr.checkKey e 10000 kt (enc k)).run P w=.ok () w)(hf:∀(ks:List κ) (k:κ),(Instr.findKey kt (enc k) (regL enc ks)).run P w=.ok (zeJ ks k) w)(hz:(zeroValue et).run P w=.ok (.int .i64 0) w)(r:Nat)(ks:List κ)(k:κ)(hg:w.heap[r]?=some (.map (regE enc ks) ks.length)):
  (Instr.lookup mt (.map (some r)) (enc k) true).run P w=.ok (.tuple #[.int .i64 (if k∈ks then (idxR ks k:Int) else 0),.bool (decide (k∈ks))]) w:=by
 unfold Instr.lookup;simp only[Sem.run_bind,run_underlying hm,Result.andThen_ok,MapKept.run_getObj_map hg,Sem.run_pure,hc];rw[show (regE enc ks).toList=regL enc ks by simp[regE],hf];unfold zeJ
 by_cases h:k∈ks
 ·rw[zuV (zcr.2 h)];simp[h]
 ·rw[zuU (fun e=>h (zcr.1 e))];simp[h,hz]
theorem zph{mt kt et:TypeId}{κ:Type} [DecidableEq κ] (enc:κ->Value)(w:World)(hm:P.underlying mt=some (.map kt et))(hc:∀(e:Bool) (k:κ),(Instr.checkKey e 10000 kt (enc k)).run P w=.ok () w)(hf:∀(ks:List κ) (k:κ),(Instr.findKey kt (enc k) (regL enc ks)).run P w=.ok (zeJ ks k) w)(r:Nat)(ks:List κ)(k:κ)(hk:k∉ks)(hg:w.heap[r]?=some (.map (regE enc ks) ks.length)):
  (Instr.mapUpdate mt (.map (some r)) (enc k) (.int .i64 (ks.length:Int))).run P w=.ok () {w with heap:=w.heap.setIfInBounds r (.map (regE enc (ks++[k])) (ks++[k]).length)}:=by
 unfold Instr.mapUpdate;simp only[Sem.run_bind,run_underlying hm,Result.andThen_ok,MapKept.run_getObj_map hg,hc];rw[show (regE enc ks).toList=regL enc ks by simp[regE],hf];unfold zeJ;rw[zuU (fun e=>hk (zcr.1 e))];simp only[Result.andThen_ok,MapKept.run_setObj_map _ hg,zpf];simp
end Go.Proofs.YthddplbodacjgaaGreatDoor
