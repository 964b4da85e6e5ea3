import Derived.Test.YtdimhpfiieepiaaGreatDoorC9
import Derived.Deep.QuietTactic
import Derived.Deep.DrawnRows
import Derived.Deep.RegionHeld3
namespace Go.Proofs.YtdimhpfiieepiaaGreatDoor
set_option maxHeartbeats 2000000
set_option maxRecDepth 100000
section
variable{fol fol':Nat -> Nat -> Prop}{first D last f D1 D2 f1 l1 f2 l2 l:Nat -> Prop}{e e1 e2:Prop}
inductive Pt where
 |set (f:Nat->Bool)
 |seq (l r:Pt)
 |alt (l r:Pt)
 |rep (b:Pt) (mn mx:Int)
 |grp (b:Pt) (g:Int)
abbrev Word:=List UInt8
def Pow(L:Word->Prop):Nat->Word->Prop
 |0,u=>u=[]
 |k+1,u=>∃x y,u=x++y/\L x/\Pow L k y
def In:Pt->Word->Prop
 |.set f,u=>∃c:UInt8,u=[c]/\f c.toNat=true
 |.seq l r,u=>∃x y,u=x++y/\In l x/\In r y
 |.alt l r,u=>In l u\/In r u
 |.rep b mn mx,u=>∃k:Nat,mn<=k/\(mx=-1\/(k:Int)<=mx)/\Pow (In b) k u
 |.grp b _,u=>In b u
theorem Pow.snoc{L:Word->Prop}:∀{k:Nat} {x y:Word},Pow L k x->L y->Pow L (k+1) (x++y)
 |0,x,y,h,hy=>by subst h;exact⟨y,[],by simp,hy,rfl⟩
 |k+1,x,y,⟨a,b,e,ha,hb⟩,hy=>⟨a,b++y,by rw[e,zuR],ha,Pow.snoc hb hy⟩
theorem Pow.unsnoc{L:Word->Prop}:∀{k:Nat} {u:Word},Pow L (k+1) u->∃x y,u=x++y/\Pow L k x/\L y
 |0,_,⟨a,b,e,ha,hb⟩=>by cases hb;exact⟨[],a,by rw[e];simp,rfl,ha⟩
 |k+1,_,⟨a,b,e,ha,hb⟩=>by
  obtain⟨x,y,e2,hx,hy⟩:=Pow.unsnoc hb;exact⟨a++x,y,by rw[e,e2,zuR],⟨a,x,rfl,ha,hx⟩,hy⟩
theorem Pow.congr{L M:Word->Prop}(h:∀u,L u↔M u):∀(k:Nat) (u:Word),Pow L k u↔Pow M k u
 |0,_=>Iff.rfl
 |k+1,_=>⟨fun⟨a,b,e,ha,hb⟩=>⟨a,b,e,(h a).1 ha,(Pow.congr h k b).1 hb⟩,fun⟨a,b,e,ha,hb⟩=>⟨a,b,e,(h a).2 ha,(Pow.congr h k b).2 hb⟩⟩
inductive Run (tk:Nat->UInt8->Prop) (fol:Nat->Nat->Prop) (first:Nat->Prop):Word->Nat->Prop
 |one (c:UInt8) (p:Nat):first p->tk p c->Run tk fol first [c] p
 |snoc (u:Word) (c:UInt8) (p q:Nat):Run tk fol first u p->fol p q->tk q c->Run tk fol first (u++[c]) q
theorem Run.mono{tk:Nat->UInt8->Prop}{first':Nat->Prop}(hf:∀p q,fol p q->fol' p q)(hi:∀p,first p->first' p){u:Word}{p:Nat}(h:Run tk fol first u p):Run tk fol' first' u p:=by
 induction h with
 |one c p a b=>exact .one c p (hi p a) b
 |snoc u c p q _ a b ih=>exact .snoc u c p q ih (hf p q a) b
theorem Run.inside{tk:Nat->UInt8->Prop}(hi:∀p,first p->D p)(hf:∀p q,D p->fol p q->D q){u:Word}{p:Nat}(h:Run tk fol first u p):D p:=by
 induction h with
 |one c p a b=>exact hi p a
 |snoc u c p q _ a b ih=>exact hf p q ih a
theorem Run.ne{tk:Nat->UInt8->Prop}{u:Word}{p:Nat}(h:Run tk fol first u p):u≠[]:=by
 cases h<;>simp
theorem Run.congrD{tk:Nat->UInt8->Prop}(hi:∀p,first p->D p)(hf:∀p q,D p->fol p q->D q)(he:∀p q,D p->(fol p q↔fol' p q)){u:Word}{p:Nat}:Run tk fol first u p↔Run tk fol' first u p:=by
 constructor
 ·intro h
  induction h with
  |one c p a b=>exact .one c p a b
  |snoc u c p q h a b ih=>exact .snoc u c p q ih ((he p q (h.inside hi hf)).1 a) b
 ·intro h;have:∀{u p},Run tk fol' first u p->Run tk fol first u p/\D p:=by
   intro u p h
   induction h with
   |one c p a b=>exact⟨.one c p a b,hi p a⟩
   |snoc u c p q h a b ih=>have k:=(he p q ih.2).2 a;exact⟨.snoc u c p q ih.1 k b,hf p q ih.2 k⟩
  exact(this h).1
def Acc(tk:Nat->UInt8->Prop)(fol:Nat->Nat->Prop)(e:Prop)(first last:Nat->Prop)(u:Word):Prop:=(u=[]/\e)\/∃p,Run tk fol first u p/\last p
structure Good(tk:Nat->UInt8->Prop)(fol:Nat->Nat->Prop)(D:Nat->Prop)(e:Prop)(first last:Nat->Prop)(L:Word->Prop):Prop where
 fi:∀p,first p->D p
 la:∀p,last p->D p
 fo:∀p q,D p->fol p q->D q
 lang:∀u,Acc tk fol e first last u↔L u
theorem Good.congr{tk:Nat->UInt8->Prop}{L:Word->Prop}(h:Good tk fol D e first last L)(he:∀p q,D p->(fol' p q↔fol p q)):Good tk fol' D e first last L:=by
 refine⟨h.fi,h.la,fun p q hp hq=>h.fo p q hp ((he p q hp).1 hq),fun u=>?_⟩;rw[<-h.lang u];unfold Acc;have:∀p,Run tk fol' first u p↔Run tk fol first u p:=fun p=>(Run.congrD h.fi h.fo (fun p q hp=>(he p q hp).symm)).symm
 simp only[this]
theorem Good.tk{tk tk':Nat->UInt8->Prop}{L:Word->Prop}(h:Good tk fol D e first last L)(he:∀p c,D p->(tk' p c↔tk p c)):Good tk' fol D e first last L:=by
 refine⟨h.fi,h.la,h.fo,fun u=>?_⟩;rw[<-h.lang u];unfold Acc;have a1:∀{t t':Nat->UInt8->Prop},(∀p c,D p->(t' p c->t p c))->∀{u p},Run t' fol first u p->Run t fol first u p:=by
  intro t t' ht u p hr
  induction hr with
  |one c p a b=>exact .one c p a (ht p c (h.fi p a) b)
  |snoc u c p q hr a b ih=>exact .snoc u c p q ih a (ht q c (h.fo p q (ih.inside h.fi h.fo) a) b)
 have:∀p,Run tk' fol first u p↔Run tk fol first u p:=fun p=>⟨a1 fun p c hp=>(he p c hp).1,a1 fun p c hp=>(he p c hp).2⟩
 simp only[this]
theorem Good.words{tk:Nat->UInt8->Prop}{L M:Word->Prop}(h:Good tk fol D e first last L)(hl:∀u,L u↔M u):Good tk fol D e first last M:=⟨h.fi,h.la,h.fo,fun u=>(h.lang u).trans (hl u)⟩
theorem Good.opt{tk:Nat->UInt8->Prop}{L:Word->Prop}(h:Good tk fol D e first last L):Good tk fol D True first last (fun u=>u=[]\/L u):=by
 refine⟨h.fi,h.la,h.fo,fun u=>?_⟩;have:=h.lang u;unfold Acc at this ⊢;constructor
 ·rintro (k|k)
  ·exact .inl k.1
  ·exact .inr (this.1 (.inr k))
 ·rintro (k|k)
  ·exact .inl ⟨k,trivial⟩
  ·rcases this.2 k with k|k
   ·exact .inl ⟨k.1,trivial⟩
   ·exact .inr k
theorem zpu(tk:Nat->UInt8->Prop)(fol:Nat->Nat->Prop)(e:Prop):Good tk fol (fun _=>False) e (fun _=>False) (fun _=>False) (fun u=>u=[]/\e):=
 ⟨fun _ h=>h,fun _ h=>h,fun _ _ h=>h.elim,fun u=>⟨fun h=>by rcases h with h|⟨p,_,h⟩;exact h;exact h.elim,.inl⟩⟩
theorem zrq{tk:Nat->UInt8->Prop}{f:Nat->Bool}{n:Nat}(ht:∀c,tk n c↔f c.toNat=true)(hf:∀q,¬fol n q):Good tk fol (· = n) False (· = n) (· = n) (In (.set f)):=by
 refine⟨fun _ h=>h,fun _ h=>h,fun p q hp hq=>absurd (hp ▸ hq) (hf q),fun u=>?_⟩;unfold Acc;constructor
 ·rintro (h|⟨p,hr,hp⟩)
  ·exact h.2.elim
  ·cases hr with
   |one c _ a b=>rw[hp] at b;exact⟨c,rfl,(ht c).1 b⟩
   |snoc u c q _ hr a b=>
    have:=hr.inside (D:=(· = n)) (fun p hp=>hp) (fun p q hp hq=>absurd (hp ▸ hq) (hf q));rw[this] at a;exact absurd a (hf _)
 ·rintro ⟨c,rfl,h⟩;exact .inr ⟨n,.one c n rfl ((ht c).2 h),rfl⟩
theorem zrp{tk:Nat->UInt8->Prop}{L1 L2:Word->Prop}
  (g1:Good tk fol D1 e1 f1 l1 L1) (g2:Good tk fol D2 e2 f2 l2 L2) (hd:∀p,D1 p->¬D2 p):
  Good tk fol (fun p=>D1 p\/D2 p) (e1\/e2) (fun p=>f1 p\/f2 p) (fun p=>l1 p\/l2 p) (fun u=>L1 u\/L2 u):=by
 refine⟨fun p h=>h.imp (g1.fi p) (g2.fi p),fun p h=>h.imp (g1.la p) (g2.la p),fun p q hp hq=>hp.imp (fun k=>g1.fo p q k hq) (fun k=>g2.fo p q k hq),fun u=>?_⟩;have key:∀{u p},Run tk fol (fun p=>f1 p\/f2 p) u p->Run tk fol f1 u p\/Run tk fol f2 u p:=by
  intro u p h
  induction h with
  |one c p a b=>exact a.imp (.one c p · b) (.one c p · b)
  |snoc u c p q _ a b ih=>exact ih.imp (.snoc u c p q · a b) (.snoc u c p q · a b)
 rw[<-g1.lang u,<-g2.lang u];unfold Acc;constructor
 ·rintro (⟨rfl,h⟩|⟨p,hr,hl⟩)
  ·exact h.imp (fun k=>.inl ⟨rfl,k⟩) (fun k=>.inl ⟨rfl,k⟩)
  ·rcases key hr with k|k
   ·have dp:=k.inside g1.fi g1.fo;rcases hl with hl|hl
    ·exact .inl (.inr ⟨p,k,hl⟩)
    ·exact absurd (g2.la p hl) (hd p dp)
   ·have dp:=k.inside g2.fi g2.fo;rcases hl with hl|hl
    ·exact absurd dp (hd p (g1.la p hl))
    ·exact .inr (.inr ⟨p,k,hl⟩)
 ·rintro ((⟨rfl,h⟩|⟨p,hr,hl⟩)|(⟨rfl,h⟩|⟨p,hr,hl⟩))
  ·exact .inl ⟨rfl,.inl h⟩
  ·exact .inr ⟨p,hr.mono (fun _ _ h=>h) (fun _=>.inl),.inl hl⟩
  ·exact .inl ⟨rfl,.inr h⟩
  ·exact .inr ⟨p,hr.mono (fun _ _ h=>h) (fun _=>.inr),.inr hl⟩
theorem zrr{tk:Nat->UInt8->Prop}{L1 L2:Word->Prop}
  (g1:Good tk fol D1 e1 f1 l1 L1) (g2:Good tk fol D2 e2 f2 l2 L2) (hd:∀p,D1 p->¬D2 p)
  (hfol:∀p q,(D1 p\/D2 p)->(fol' p q↔fol p q\/(l1 p/\f2 q)))
  (hf:∀p,f p↔f1 p\/(e1/\f2 p)) (hl:∀p,l p↔l2 p\/(e2/\l1 p)):
  Good tk fol' (fun p=>D1 p\/D2 p) (e1/\e2) f l (fun u=>∃x y,u=x++y/\L1 x/\L2 y):=by
 have up:∀p q,(D1 p\/D2 p)->fol p q->fol' p q:=fun p q h k=>(hfol p q h).2 (.inl k)
 have fi:∀p,f p->D1 p\/D2 p:=fun p h=>((hf p).1 h).imp (g1.fi p) (fun k=>g2.fi p k.2)
 have fo:∀p q,(D1 p\/D2 p)->fol' p q->D1 q\/D2 q:=fun p q hp hq=>by
  rcases(hfol p q hp).1 hq with k|k
  ·exact hp.imp (g1.fo p q · k) (g2.fo p q · k)
  ·exact .inr (g2.fi q k.2)
 -- a run of the first,a run of the second,in the whole
 have r1:∀{u p},Run tk fol f1 u p->Run tk fol' f u p:=by
  intro u p h;have:∀{u p},Run tk fol f1 u p->Run tk fol' f u p/\D1 p:=by
   intro u p h
   induction h with
   |one c p a b=>exact⟨.one c p ((hf p).2 (.inl a)) b,g1.fi p a⟩
   |snoc u c p q _ a b ih=>exact⟨.snoc u c p q ih.1 (up p q (.inl ih.2) a) b,g1.fo p q ih.2 a⟩
  exact(this h).1
 have r2:∀{x y p q},Run tk fol' f x p->l1 p->Run tk fol f2 y q->Run tk fol' f (x++y) q:=by
  intro x y p q hx hp hy;have:∀{y q},Run tk fol f2 y q->Run tk fol' f (x++y) q/\D2 q:=by
   intro y q hy
   induction hy with
   |one c b a t=>exact⟨.snoc x c p b hx ((hfol p b (.inl (g1.la p hp))).2 (.inr ⟨hp,a⟩)) t,g2.fi b a⟩
   |snoc u c a b _ g t ih=>rw[<-zuR];exact⟨.snoc _ c a b ih.1 (up a b (.inr ih.2) g) t,g2.fo a b ih.2 g⟩
  exact(this hy).1
 have r2':∀{y q},e1->Run tk fol f2 y q->Run tk fol' f y q:=by
  intro y q he hy;have:∀{y q},Run tk fol f2 y q->Run tk fol' f y q/\D2 q:=by
   intro y q hy
   induction hy with
   |one c b a t=>exact⟨.one c b ((hf b).2 (.inr ⟨he,a⟩)) t,g2.fi b a⟩
   |snoc u c a b _ g t ih=>exact⟨.snoc _ c a b ih.1 (up a b (.inr ih.2) g) t,g2.fo a b ih.2 g⟩
  exact(this hy).1
 have key:∀{u p},Run tk fol' f u p->(D1 p/\Run tk fol f1 u p)\/(D2 p/\∃x y,u=x++y/\Acc tk fol e1 f1 l1 x/\Run tk fol f2 y p):=by
  intro u p h
  induction h with
  |one c p a b=>
   rcases(hf p).1 a with a|a
   ·exact .inl ⟨g1.fi p a,.one c p a b⟩
   ·exact .inr ⟨g2.fi p a.2,[],[c],rfl,.inl ⟨rfl,a.1⟩,.one c p a.2 b⟩
  |snoc u c p q hr a b ih=>
   rcases ih with ⟨dp,k⟩|⟨dp,x,y,e,hx,hy⟩
   ·rcases(hfol p q (.inl dp)).1 a with a|a
    ·exact .inl ⟨g1.fo p q dp a,.snoc u c p q k a b⟩
    ·exact .inr ⟨g2.fi q a.2,u,[c],rfl,.inr ⟨p,k,a.1⟩,.one c q a.2 b⟩
   ·rcases(hfol p q (.inr dp)).1 a with a|a
    ·exact .inr ⟨g2.fo p q dp a,x,y++[c],by rw[e,zuR],hx,.snoc y c p q hy a b⟩
    ·exact absurd dp (hd p (g1.la p a.1))
 refine⟨fi,fun p h=>((hl p).1 h).elim (fun k=>.inr (g2.la p k)) (fun k=>.inl (g1.la p k.2)),fo,fun u=>?_⟩;constructor
 ·rintro (⟨rfl,h⟩|⟨p,hr,hp⟩)
  ·exact⟨[],[],rfl,(g1.lang []).1 (.inl ⟨rfl,h.1⟩),(g2.lang []).1 (.inl ⟨rfl,h.2⟩)⟩
  ·rcases key hr with ⟨dp,k⟩|⟨dp,x,y,e,hx,hy⟩
   ·rcases(hl p).1 hp with hp|hp
    ·exact absurd (g2.la p hp) (hd p dp)
    ·exact⟨u,[],by simp,(g1.lang u).1 (.inr ⟨p,k,hp.2⟩),(g2.lang []).1 (.inl ⟨rfl,hp.1⟩)⟩
   ·rcases(hl p).1 hp with hp|hp
    ·exact⟨x,y,e,(g1.lang x).1 hx,(g2.lang y).1 (.inr ⟨p,hy,hp⟩)⟩
    ·exact absurd dp (hd p (g1.la p hp.2))
 ·rintro ⟨x,y,rfl,hx,hy⟩;rcases(g1.lang x).2 hx with ⟨rfl,he1⟩|⟨p,hr,hp⟩
  ·rcases(g2.lang y).2 hy with ⟨rfl,he2⟩|⟨q,hq,hq2⟩
   ·exact .inl ⟨rfl,he1,he2⟩
   ·exact .inr ⟨q,r2' he1 hq,(hl q).2 (.inl hq2)⟩
  ·rcases(g2.lang y).2 hy with ⟨rfl,he2⟩|⟨q,hq,hq2⟩
   ·exact .inr ⟨p,by rw[zuS];exact r1 hr,(hl p).2 (.inr ⟨he2,hp⟩)⟩
   ·exact .inr ⟨q,r2 (r1 hr) hp hq,(hl q).2 (.inl hq2)⟩
theorem zpv{tk:Nat->UInt8->Prop}{L:Word->Prop}
  (g:Good tk fol D e f l L) (hfol:∀p q,D p->(fol' p q↔fol p q\/(l p/\f q))):Good tk fol' D True f l (fun u=>∃k,Pow L k u):=by
 have up:∀p q,D p->fol p q->fol' p q:=fun p q h k=>(hfol p q h).2 (.inl k)
 have fo:∀p q,D p->fol' p q->D q:=fun p q hp hq=>by
  rcases(hfol p q hp).1 hq with k|k
  ·exact g.fo p q hp k
  ·exact g.fi q k.2
 have r2:∀{x y p q},Run tk fol' f x p->l p->Run tk fol f y q->Run tk fol' f (x++y) q:=by
  intro x y p q hx hp hy;have:∀{y q},Run tk fol f y q->Run tk fol' f (x++y) q/\D q:=by
   intro y q hy
   induction hy with
   |one c b a t=>exact⟨.snoc x c p b hx ((hfol p b (g.la p hp)).2 (.inr ⟨hp,a⟩)) t,g.fi b a⟩
   |snoc u c a b _ k t ih=>rw[<-zuR];exact⟨.snoc _ c a b ih.1 (up a b ih.2 k) t,g.fo a b ih.2 k⟩
  exact(this hy).1
 have r1:∀{y q},Run tk fol f y q->Run tk fol' f y q:=by
  intro y q hy;have:∀{y q},Run tk fol f y q->Run tk fol' f y q/\D q:=by
   intro y q hy
   induction hy with
   |one c b a t=>exact⟨.one c b a t,g.fi b a⟩
   |snoc u c a b _ k t ih=>exact⟨.snoc _ c a b ih.1 (up a b ih.2 k) t,g.fo a b ih.2 k⟩
  exact(this hy).1
 have back:∀k {x y q},Pow L k x->Run tk fol f y q->Run tk fol' f (x++y) q:=by
  intro k
  induction k with
  |zero=>intro x y q hx hy;cases hx;exact r1 hy
  |succ k ih=>
   intro x y q hx hy;obtain⟨x',z,rfl,hx',hz⟩:=hx.unsnoc;rcases(g.lang z).2 hz with ⟨rfl,_⟩|⟨p,hr,hp⟩
   ·rw[zuS];exact ih hx' hy
   ·exact r2 (ih hx' hr) hp hy
 have key:∀{u p},Run tk fol' f u p->D p/\∃k x y,u=x++y/\Pow L k x/\Run tk fol f y p:=by
  intro u p h
  induction h with
  |one c p a b=>exact⟨g.fi p a,0,[],[c],rfl,rfl,.one c p a b⟩
  |snoc u c p q hr a b ih=>
   obtain⟨dp,k,x,y,e,hx,hy⟩:=ih;rcases(hfol p q dp).1 a with a|a
   ·exact⟨g.fo p q dp a,k,x,y++[c],by rw[e,zuR],hx,.snoc y c p q hy a b⟩
   ·refine⟨g.fi q a.2,k+1,u,[c],rfl,?_,.one c q a.2 b⟩;rw[e];exact hx.snoc ((g.lang y).1 (.inr ⟨p,hy,a.1⟩))
 refine⟨g.fi,g.la,fo,fun u=>?_⟩;constructor
 ·rintro (⟨rfl,-⟩|⟨p,hr,hp⟩)
  ·exact⟨0,rfl⟩
  ·obtain⟨_,k,x,y,rfl,hx,hy⟩:=key hr;exact⟨k+1,hx.snoc ((g.lang y).1 (.inr ⟨p,hy,hp⟩))⟩
 ·rintro ⟨k,hk⟩
  induction k generalizing u with
  |zero=>exact .inl ⟨hk,trivial⟩
  |succ k ih=>
   obtain⟨x,y,rfl,hx,hy⟩:=hk.unsnoc;rcases(g.lang y).2 hy with ⟨rfl,_⟩|⟨p,hr,hp⟩
   ·rw[zuS];exact ih x hx
   ·exact .inr ⟨p,back k hx hr,hp⟩
def UpTo(L:Word->Prop)(n:Nat)(u:Word):Prop:=∃k,k<=n/\Pow L k u
theorem zkU(L:Word->Prop)(u:Word):(u=[]/\True)↔UpTo L 0 u:=by
 constructor
 ·rintro ⟨rfl,-⟩;exact⟨0,zvJ _,rfl⟩
 ·rintro ⟨k,hk,h⟩;obtain rfl:k=0:=by omega
  exact⟨h,trivial⟩
theorem zqQ(L:Word->Prop)(n:Nat)(u:Word):(u=[]\/∃x y,u=x++y/\L x/\UpTo L n y)↔UpTo L (n+1) u:=by
 constructor
 ·rintro (rfl|⟨x,y,rfl,hx,k,hk,hy⟩)
  ·exact⟨0,zvT _,rfl⟩
  ·exact⟨k+1,by omega,x,y,rfl,hx,hy⟩
 ·rintro ⟨k,hk,h⟩
  match k,hk,h with
  |0,_,h=>exact .inl h
  |k+1,hk,⟨x,y,e,hx,hy⟩=>exact .inr ⟨x,y,e,hx,k,by omega,hy⟩
def znk(L M:Word->Prop)(n:Nat)(u:Word):Prop:=∃x y,u=x++y/\Pow L n x/\M y
theorem znr(L M:Word->Prop)(u:Word):M u↔znk L M 0 u:=by
 constructor
 ·intro h;exact⟨[],u,rfl,rfl,h⟩
 ·rintro ⟨x,y,rfl,hx,hy⟩;cases hx;exact hy
theorem znq(L M:Word->Prop)(n:Nat)(u:Word):(∃x y,u=x++y/\L x/\znk L M n y)↔znk L M (n+1) u:=by
 constructor
 ·rintro ⟨x,y,rfl,hx,a,b,rfl,ha,hb⟩;exact⟨x++a,b,by rw[zuR],⟨x,a,rfl,hx,ha⟩,hb⟩
 ·rintro ⟨x,y,rfl,⟨a,b,rfl,ha,hb⟩,hy⟩;exact⟨a,b++y,by rw[zuR],ha,b,y,rfl,hb,hy⟩
theorem Pow.add{L:Word->Prop}:∀(m n:Nat) {x y:Word},Pow L m x->Pow L n y->Pow L (m+n) (x++y)
 |0,n,x,y,hx,hy=>by cases hx;simpa using hy
 |m+1,n,x,y,⟨a,b,e,ha,hb⟩,hy=>by
  rw[show m+1+n=(m+n)+1 by omega,e];exact⟨a,b++y,by rw[zuR],ha,Pow.add m n hb hy⟩
theorem Pow.split{L:Word->Prop}:∀(m n:Nat) {u:Word},Pow L (m+n) u->∃x y,u=x++y/\Pow L m x/\Pow L n y
 |0,n,u,h=>⟨[],u,rfl,rfl,by simpa using h⟩
 |m+1,n,u,h=>by
  rw[show m+1+n=(m+n)+1 by omega] at h;obtain⟨a,b,rfl,ha,hb⟩:=h;obtain⟨x,y,rfl,hx,hy⟩:=Pow.split m n hb;exact⟨a++x,y,by rw[zuR],⟨a,x,rfl,ha,hx⟩,hy⟩
theorem zsk(b:Pt)(mn:Nat)(u:Word):znk (In b) (fun u=>∃k,Pow (In b) k u) mn u↔In (.rep b mn (-1)) u:=by
 constructor
 ·rintro ⟨x,y,rfl,hx,k,hy⟩;exact⟨mn+k,by omega,.inl rfl,hx.add _ _ hy⟩
 ·rintro ⟨k,h1,-,h⟩;obtain⟨x,y,rfl,hx,hy⟩:=Pow.split mn (k-mn) (by rw[show mn+(k-mn)=k by omega];exact h);exact⟨x,y,rfl,hx,_,hy⟩
theorem zsl(b:Pt)(mn d:Nat)(u:Word):znk (In b) (UpTo (In b) d) mn u↔In (.rep b mn ((mn+d:Nat):Int)) u:=by
 constructor
 ·rintro ⟨x,y,rfl,hx,k,hk,hy⟩;exact⟨mn+k,by omega,.inr (by omega),hx.add _ _ hy⟩
 ·rintro ⟨k,h1,h2,h⟩;obtain⟨x,y,rfl,hx,hy⟩:=Pow.split mn (k-mn) (by rw[show mn+(k-mn)=k by omega];exact h);exact⟨x,y,rfl,hx,k-mn,by omega,hy⟩
theorem zrw(b:Pt)(u:Word):In (.rep b 1 1) u↔In b u:=by
 constructor
 ·rintro ⟨k,h1,h2,h⟩;obtain rfl:k=1:=by omega
  obtain⟨x,y,rfl,hx,hy⟩:=h;cases hy
  simpa using hx
 ·intro h;exact⟨1,by omega,.inr (by omega),u,[],by simp,h,rfl⟩
end
section
variable{ns:List zaq}{k mn n:Nat}{u:Word}{L M:Word -> Prop}{F P:Nat -> Prop}{S:List Bool}
def hasF(rs:List (Int×Int))(c:Nat):Bool:=rs.any fun r=>decide (r.1<=c/\(c:Int)<=r.2)
def zbG:Pt:=.set fun _=>false
def zbO(n:zaq)(ops:List Pt):Pt:=
 if n.kind=1 then .set (hasF n.set)
 else if n.kind=2 then .seq (ops.getD 0 zbG) (ops.getD 1 zbG)
 else if n.kind=3 then .alt (ops.getD 0 zbG) (ops.getD 1 zbG)
 else if n.kind=4 then .rep (ops.getD 0 zbG) n.min n.max
 else .grp (ops.getD 0 zbG) n.group
def zsA(st:List Pt)(n:zaq):List Pt:=st.take (st.length-zaE n.kind)++[zbO n (st.drop (st.length-zaE n.kind))]
def tstk(ns:List zaq):Nat->List Pt
 |0=>[]
 |i+1=>zsA (tstk ns i) (ns.getD i .zero)
def tOf(ns:List zaq)(i:Nat):Pt:=zbO (ns.getD i .zero) ((tstk ns i).drop ((tstk ns i).length-zaE (zat ns i)))
theorem zgu(ns:List zaq):∀i,(stk ns i).map (tOf ns)=tstk ns i
 |0=>rfl
 |i+1=>by
  have ih:=zgu ns i;have hl:(stk ns i).length=(tstk ns i).length:=by rw[<-ih,zvj]
  rw[stk,tstk,zsA,zvl,List.map_take,ih,hl]
  rfl
theorem zsv(ns:List zaq)(i:Nat):(tstk ns i).length=(stk ns i).length:=by rw[<-zgu,zvj]
theorem zeQ(ns:List zaq)(k j:Nat)(hj:j<(stk ns k).length):(stk ns k).getD j 0<k:=zkI ns k _ (by
 rw[zu3,zva hj];exact zvg _)
theorem zdE(ha:zaE (zat ns k)=2)(hl:2<=(stk ns k).length):∃x y:Nat,zbL ns k=x/\zbD ns k=y/\x<k/\y<k/\tOf ns k=zbO (ns.getD k .zero) [tOf ns x,tOf ns y]:=by
 refine⟨(stk ns k).getD ((stk ns k).length-2) 0,(stk ns k).getD ((stk ns k).length-1) 0,?_,?_,zeQ _ _ _ (by omega),zeQ _ _ _ (by omega),?_⟩
 ·rw[zbL,ha,zv2 (by omega)]
 ·rw[zbD,zv3 ha]
 ·have hw:=zsv ns k;unfold tOf;rw[ha]
  congr 1
  rw[<-zgu ns k,zvj];apply zu0;intro i;rw[zu9,zvd]
  match i with
  |0=>simp[List.getD_eq_getElem?_getD,List.getElem?_eq_getElem (show (stk ns k).length-2<(stk ns k).length by omega),tOf]
  |1=>rw[show (stk ns k).length-2+1=(stk ns k).length-1 by omega];simp[List.getD_eq_getElem?_getD,List.getElem?_eq_getElem (show (stk ns k).length-1<(stk ns k).length by omega),tOf]
  |i+2=>rw[zvb (by omega)];simp
theorem zdD(ha:zaE (zat ns k)=1)(hl:1<=(stk ns k).length):∃x:Nat,zbL ns k=x/\x<k/\tOf ns k=zbO (ns.getD k .zero) [tOf ns x]:=by
 refine⟨(stk ns k).getD ((stk ns k).length-1) 0,?_,zeQ _ _ _ (by omega),?_⟩
 ·rw[zbL,ha,zv2 (by omega)]
 ·unfold tOf;rw[ha]
  congr 1
  rw[<-zgu ns k,zvj];apply zu0;intro i;rw[zu9,zvd]
  match i with
  |0=>simp[List.getD_eq_getElem?_getD,List.getElem?_eq_getElem (show (stk ns k).length-1<(stk ns k).length by omega),tOf]
  |i+1=>rw[zvb (by omega)];simp
def zbc(u:Word)(L:Word->Prop)(F:Nat->Prop)(j:Nat):Prop:=∃i,F i/\i<=j/\j<=u.length/\L ((u.drop i).take (j-i))
theorem zif{G:Nat->Prop}(hl:∀w,L w↔M w)(hf:∀i,F i↔G i)(j:Nat):zbc u L F j↔zbc u M G j:=
 exists_congr fun i=>and_congr (hf i) (and_congr_right fun _=>and_congr_right fun _=>hl _)
theorem zed(u:Word){i m j:Nat}(h1:i<=m)(h2:m<=j):(u.drop i).take (j-i)=(u.drop i).take (m-i)++(u.drop m).take (j-m):=by
 have h3:u.drop m=(u.drop i).drop (m-i):=by rw[List.drop_drop];congr 1;omega
 rw[h3,show j-i=(m-i)+(j-m) by omega,List.take_add]
theorem zgo(j:Nat):zbc u (fun w=>∃x y,w=x++y/\L x/\M y) F j↔zbc u M (zbc u L F) j:=by
 constructor
 ·rintro ⟨i,hi,hij,hj,x,y,e,hx,hy⟩;have hlen:((u.drop i).take (j-i)).length=j-i:=by simp;omega
  have hl2:x.length+y.length=j-i:=by rw[<-hlen,e,zvh]
  have e2:=zed u (i:=i) (m:=i+x.length) (j:=j) (by omega) (by omega);rw[e] at e2;have hx2:x=(u.drop i).take (i+x.length-i):=List.append_inj_left e2 (by simp;omega);have hy2:y=(u.drop (i+x.length)).take (j-(i+x.length)):=List.append_inj_right e2 (by simp;omega);exact⟨i+x.length,⟨i,hi,by omega,by omega,by rw[<-hx2];exact hx⟩,by omega,hj,by rw[<-hy2];exact hy⟩
 ·rintro ⟨m,⟨i,hi,him,hm,hx⟩,hmj,hj,hy⟩;exact⟨i,hi,by omega,hj,_,_,zed u him hmj,hx,hy⟩
theorem zrj(j:Nat):zbc u (fun w=>L w\/M w) F j↔zbc u L F j\/zbc u M F j:=by
 constructor
 ·rintro ⟨i,h1,h2,h3,h|h⟩
  ·exact .inl ⟨i,h1,h2,h3,h⟩
  ·exact .inr ⟨i,h1,h2,h3,h⟩
 ·rintro (⟨i,h1,h2,h3,h⟩|⟨i,h1,h2,h3,h⟩)
  ·exact⟨i,h1,h2,h3,.inl h⟩
  ·exact⟨i,h1,h2,h3,.inr h⟩
theorem zrk{f:Nat->Bool}(j:Nat):zbc u (In (.set f)) F j↔∃i,∃h:i<u.length,j=i+1/\F i/\f (u[i]'h).toNat=true:=by
 constructor
 ·rintro ⟨i,h1,h2,h3,c,e,hc⟩;have hlen:((u.drop i).take (j-i)).length=j-i:=by simp;omega
  rw[e] at hlen;simp only[zvi,zvk] at hlen;have hi:i<u.length:=by omega
  refine⟨i,hi,by omega,h1,?_⟩;have:(u.drop i).take (j-i)=[u[i]]:=by rw[zuV hi,show j-i=1 by omega];rfl
  rw[this] at e;cases e;exact hc
 ·rintro ⟨i,hi,rfl,h1,h⟩;refine⟨i,h1,by omega,by omega,u[i],?_,h⟩;rw[zuV hi,show i+1-i=1 by omega]
  rfl
theorem ziV(hF:∀i,F i->i<=u.length)(j:Nat):zbc u (Pow L 0) F j↔F j:=by
 constructor
 ·rintro ⟨i,h1,h2,h3,h⟩;have hlen:((u.drop i).take (j-i)).length=j-i:=by simp;omega
  have h':(u.drop i).take (j-i)=[]:=h;rw[h'] at hlen;simp only[zvk] at hlen;obtain rfl:i=j:=by omega
  exact h1
 ·intro h;exact⟨j,h,zvJ _,hF j h,by rw[zvR];rfl⟩
theorem zcN(k j:Nat):zbc u (Pow L (k+1)) F j↔zbc u L (zbc u (Pow L k) F) j:=by
 rw[<-zgo j];exact zif (fun w=>⟨fun h=>h.unsnoc,fun⟨x,y,e,hx,hy⟩=>by rw[e];exact hx.snoc hy⟩) (fun _=>Iff.rfl) j
theorem zpf{M:Nat->Word->Prop}(j:Nat):zbc u (fun w=>∃k,P k/\M k w) F j↔∃k,P k/\zbc u (M k) F j:=by
 constructor
 ·rintro ⟨i,h1,h2,h3,k,hk,h⟩;exact⟨k,hk,i,h1,h2,h3,h⟩
 ·rintro ⟨k,hk,i,h1,h2,h3,h⟩;exact⟨i,h1,h2,h3,k,hk,h⟩
theorem zpg{K:Nat}(hK:mn<=K)(h:∀j,zbc u (Pow L (K+1)) F j->∃i,mn<=i/\i<=K/\zbc u (Pow L i) F j):
  ∀m,mn<=m->∀j,zbc u (Pow L m) F j->∃i,mn<=i/\i<=K/\zbc u (Pow L i) F j:=by
 intro m
 induction m with
 |zero=>intro hm j hj;exact⟨0,hm,by omega,hj⟩
 |succ m ih=>
  intro hm j hj
  by_cases hmK:m+1<=K
  ·exact⟨m+1,hm,hmK,hj⟩
  by_cases hmm:mn<=m
  ·obtain⟨i,hi,hij,hjl,hL⟩:=(zcN m j).1 hj;obtain⟨i0,a,b,c⟩:=ih hmm i hi;have:zbc u (Pow L (i0+1)) F j:=(zcN i0 j).2 ⟨i,c,hij,hjl,hL⟩
   by_cases e:i0+1<=K
   ·exact⟨i0+1,by omega,e,this⟩
   ·obtain rfl:i0=K:=by omega
    exact h j this
  ·obtain rfl:m+1=mn:=by omega
   exact absurd hK hmK
def repP(mn:Nat)(mx:Int)(k:Nat):Prop:=mn<=k/\(mx=-1\/(k:Int)<=mx)
theorem zmA{b:Pt}{mx:Int}(j:Nat):zbc u (In (.rep b mn mx)) F j↔∃k,repP mn mx k/\zbc u (Pow (In b) k) F j:=by
 rw[<-zpf j];exact zif (fun w=>⟨fun⟨k,a,c,d⟩=>⟨k,⟨by omega,c⟩,d⟩,fun⟨k,a,d⟩=>⟨k,by have:=a.1;omega,a.2,d⟩⟩) (fun _=>Iff.rfl) j
structure zdd(n:Nat)(S:List Bool)(P:Nat->Prop):Prop where
 len:S.length=n+1
 iff:∀j,S.getD j false=true↔P j
theorem zdd.le(h:zdd n S P):∀j,P j->j<=n:=fun j hj=>by
 have:=(h.iff j).2 hj
 by_cases e:j<S.length
 ·have:=h.len;omega
 ·rw[zu3,zvb (by omega)] at this;cases this
theorem zdd.congr{Q:Nat->Prop}(h:zdd n S P)(hq:∀j,P j↔Q j):zdd n S Q:=⟨h.len,fun j=>(h.iff j).trans (hq j)⟩
end
section
open Go.RowKit
theorem Tryz.infoBoolE:(Tryz.prog.info? 4).map (fun i=>(i.zero,i.size,i.bytes))=some (some (.bool false),1,1):=by kernel_rfl
def zbB(w:World)(g:Nat)(S:List Bool):Prop:=g<w.heap.size/\∀i,i<S.length->w.cell? ⟨g,i,none⟩=some (.bool (S.getD i false))
theorem zbB.below{w w':World}{g:Nat}{S:List Bool}(h:zbB w g S)(hb:Below w.heap.size w w'):zbB w' g S:=
 ⟨zvL h.1 hb.size,fun i hi=>(hb.cell (p:=⟨g,i,none⟩) h.1).trans (h.2 i hi)⟩
theorem zth{xs:List Value}{k:Nat}{f:Nat->List Value}{a:Value}(h:zb4 xs 1 k f)(hl:k<xs.length)(hk:f k=[a]):zb4 (xs.set k a) 1 (k+1) f:=by
 intro j hj c hc;obtain rfl:c=0:=by omega
 rw[Nat.mul_one,zvH,zve]
 by_cases e:j=k
 ·subst e;rw[hk];simp;omega
 ·rw[zv2 (by omega)];have:=h j (by omega) 0 (by omega)
  simpa using this
theorem zpy(rs:List (Int×Int))(c k:Nat)(hk:k<rs.length)(a b:Int)(h:rs.getD k (0,0)=(a,b)):hasF (rs.drop k) c=(btw c a b || hasF (rs.drop (k+1)) c):=by
 rw[zuV hk];have:rs[k]=(a,b):=by rw[<-h];simp[List.getD,hk]
 unfold hasF;rw[List.any_cons,this]
 rfl
theorem zt0{lo:Nat}(v:Value)(rs:List (Int×Int))(c:Nat)(w:World)(hs:zal lo w v rs)(hc8:c<256):
  Calls Tryz.prog 112 #[v,.int .u8 c] w fun e w'=>e=.returned (.bool (hasF rs c))/\Below w.heap.size w w':=by
 obtain⟨ao,cap,rfl,hm,hc⟩:=hs;have hc0:(0:Int)<=(c:Int):=by omega
 have hc1:(c:Int)<256:=by omega
 go_enter Tryz.func112,Tryz.ntmps112
 go_wp2
 go_loopw [9] (fun i wr=>∃k:Nat,k<=rs.length/\i=.int .i64 k/\Hid (hasF rs c=hasF (rs.drop k) c)/\Below w.heap.size w wr)
  (fun i _=>rs.length-(intOf i).toNat)
 case atStart=>exact⟨0,zvT _,rfl,rfl,Below.refl _ _⟩
 case round=>
  obtain⟨k,hk,rfl,HS,hb⟩:=hrel
  by_cases hlt:k<rs.length
  ·obtain⟨b,o,x,y,rfl,Hn,hbl,c0,c1⟩:=hc.elem hb hlt;have hba:Below w.heap.size w (wr.alloc (.cells #[.int .i64 x,.int .i64 y] 211)):=hb.alloc hb.size _;have HD:Hid (hasF (rs.drop k) c=(btw c x y || hasF (rs.drop (k+1)) c)):=zpy rs c k hlt x y Hn.out
   go_wp2_with fail
   refine(zap _ _ _ _).mono ?_;rintro e w2 ⟨rfl,rfl⟩;cases hq:btw c x y
   ·go_wp2
    go_roundw
    case rel=>exact⟨k+1,by omega,by go_num,by show _=_;rw[HS.out,HD.out,hq,Bool.false_or],hba⟩
    case measure=>simp[intOf];omega
   ·go_wp2;go_ret;exact⟨zae (by rw[HS.out,HD.out,hq,Bool.true_or]),hba⟩
  ·go_wp2;go_ret;exact⟨zae (by rw[HS.out,zuW (by omega)];rfl),hb⟩
def orL(X Y:List Bool):List Bool:=(List.range X.length).map fun i=>X.getD i false || Y.getD i false
theorem zfN(X Y:List Bool):(orL X Y).length=X.length:=by simp[orL]
theorem zji(X Y:List Bool){i:Nat}(h:i<X.length):(orL X Y).getD i false=(X.getD i false || Y.getD i false):=by simp[orL,List.getD_eq_getElem?_getD,h]
theorem zmF{n:Nat}{X Y:List Bool}{P Q:Nat->Prop}(hx:zdd n X P)(hy:zdd n Y Q):zdd n (orL X Y) (fun j=>P j\/Q j):=by
 refine⟨by rw[zfN];exact hx.len,fun j=>?_⟩
 by_cases hj:j<X.length
 ·rw[zji _ _ hj,zuM,hx.iff,hy.iff]
 ·have e1:(orL X Y).getD j false=false:=by rw[zu3,zvb (by rw[zfN];omega)];rfl
  rw[e1];constructor
  ·intro h;cases h
  ·rintro (h|h)
   ·exact absurd (hx.le j h) (by have:=hx.len;omega)
   ·exact absurd (hy.le j h) (by have:=hx.len;omega)
theorem zui(n:Nat)(X Y:List Bool)(g g2 cap cap2:Nat)(w:World)(hX:zbB w g X)(hY:zbB w g2 Y)(hxn:X.length=n)(hyn:Y.length=n)(hn:n<=1048576):
  Calls Tryz.prog 113 #[.slice (some ⟨g,0,none⟩) n cap,.slice (some ⟨g2,0,none⟩) n cap2] w fun e w'=>e=.returned (.slice (some ⟨w.heap.size,0,none⟩) n n)/\zbB w' w.heap.size (orL X Y)/\Below w.heap.size w w':=by
 have Hx:Hid _:=hxn;have Hy:Hid _:=hyn;clear hxn hyn;obtain⟨i0,hi,hz0,hz1,hz2⟩:=info_parts Tryz.infoBoolE
 go_enter Tryz.func113,Tryz.ntmps113
 go_wp2_with (refine wpList_make_full _ rfl _ _ 144 rfl w.heap.size 4 i0 _ 1 Tryz.underlying144 hi hz0 hz1 _ _ _ _ n rfl rfl rfl rfl (by rw[hz2];omega) (by unfold maxLen;omega) (zvJ _) ?_;intro w1 hown hgrow)
 have hbw:Below w.heap.size w w1:=(Below.refl _ _).grown hgrow (zvJ _) (by intro k h;cases h);clear hgrow
 go_loopw [12] (fun i wr=>∃k:Nat,k<=n/\i=.int .i64 k/\Below w.heap.size w wr/\∃zs:List Value,wr.ownsRow w.heap.size 4 1 (.slice (some ⟨w.heap.size,0,none⟩) n n) n zs/\
   zb4 zs 1 k (fun j=>[.bool ((orL X Y).getD j false)]))
  (fun i _=>n-(intOf i).toNat)
 case atStart=>exact⟨0,zvT _,rfl,hbw,_,hown,fun j hj=>absurd hj (zvQ _)⟩
 case round=>
  obtain⟨k,hk,rfl,hb,zs,hown,hfill⟩:=hrel
  by_cases hlt:k<n
  ·have c0:=(hb.cell (p:=⟨g,k,none⟩) hX.1).trans (hX.2 k (by rw[Hx.out];exact hlt));have c1:=(hb.cell (p:=⟨g2,k,none⟩) hY.1).trans (hY.2 k (by rw[Hy.out];exact hlt));have Ho:Hid ((orL X Y).getD k false=(X.getD k false || Y.getD k false)):=zji X Y (by rw[Hx.out];exact hlt);generalize X.getD k false=a at *;generalize Y.getD k false=b at *;obtain⟨u0,d0⟩:=zbC hown (j:=k) (by omega);have f0:=hown.frozenAt k;have hg1:=hX.1;have hg2:=hY.1;have hi0:(0:Int)<=(k:Int):=by omega
   have hi1:(k:Int)<(n:Int):=by omega
   cases a
   all_goals
    go_wp2
    go_roundw
    case rel=>exact⟨k+1,by omega,by go_num,hb.setCell (by simp) _,_,(hown.stored _ _).1,zth hfill (by have:=hown.1;omega) (by rw[Ho.out];rfl)⟩
    case measure=>simp[intOf];omega
  ·go_wp2;have hkk:k=n:=by omega
   refine zvV (v:=.slice (some ⟨w.heap.size,0,none⟩) n n) (by simp[results,Tryz.results113,go_sem]) rfl ⟨rfl,⟨zcE hown,fun i hi=>?_⟩,hb⟩;rw[hkk] at hfill;have e0:=zaJ hown hfill (i:=i) (c:=0) (by rw[zfN,Hx.out] at hi;exact hi) (by omega)
   simpa using e0
def zfx(X Y:List Bool)(k:Nat):Bool:=(List.range k).any fun i=>Y.getD i false && !X.getD i false
theorem zno(X Y:List Bool)(k:Nat):zfx X Y (k+1)=(zfx X Y k || (Y.getD k false && !X.getD k false)):=by simp[zfx,List.range_succ]
theorem zsZ(n:Nat)(X Y:List Bool)(g g2 cap cap2:Nat)(w:World)(hX:zbB w g X)(hY:zbB w g2 Y)(hxn:X.length=n)(hyn:Y.length=n)(hn:n<=1048576):
  Calls Tryz.prog 136 #[.slice (some ⟨g,0,none⟩) n cap,.slice (some ⟨g2,0,none⟩) n cap2] w fun e w'=>e=.returned (.bool (zfx X Y n))/\Below w.heap.size w w':=by
 have Hx:Hid _:=hxn;have Hy:Hid _:=hyn;clear hxn hyn
 go_enter Tryz.func136,Tryz.ntmps136
 go_wp2
 go_loopw [8] (fun i wr=>∃k:Nat,k<=n/\i=.int .i64 k/\Below w.heap.size w wr/\Hid (zfx X Y k=false))
  (fun i _=>n-(intOf i).toNat)
 case atStart=>exact⟨0,zvT _,rfl,Below.refl _ _,rfl⟩
 case round=>
  obtain⟨k,hk,rfl,hb,HF⟩:=hrel
  by_cases hlt:k<n
  ·have c0:=(hb.cell (p:=⟨g,k,none⟩) hX.1).trans (hX.2 k (by rw[Hx.out];exact hlt));have c1:=(hb.cell (p:=⟨g2,k,none⟩) hY.1).trans (hY.2 k (by rw[Hy.out];exact hlt));have Ho:Hid (zfx X Y (k+1)=(Y.getD k false && !X.getD k false)):=by show _=_;rw[zno,HF.out,Bool.false_or]
   have Hm:Hid (zfx X Y (k+1)=true->zfx X Y n=true):=by
    intro h;unfold zfx at h ⊢;obtain⟨i,hi,h2⟩:=zuQ.1 h;exact zuQ.2 ⟨i,by simp at hi ⊢;omega,h2⟩
   generalize X.getD k false=a at *;generalize Y.getD k false=b at *;have hi0:(0:Int)<=(k:Int):=by omega
   have hi1:(k:Int)<(n:Int):=by omega
   cases b<;>cases a
   case true.false=>
    go_wp2;go_ret;exact⟨zae (Hm.out (by rw[Ho.out];rfl)).symm,hb⟩
   all_goals
    go_wp2
    go_roundw
    case rel=>exact⟨k+1,by omega,by go_num,hb,by show _=_;rw[Ho.out];rfl⟩
    case measure=>simp[intOf];omega
  ·have hkk:k=n:=by omega
   subst hkk;go_wp2;go_ret;exact⟨zae HF.out.symm,hb⟩
theorem zio(N:Nat):(madeCells (Value.bool false).cells (N*1)).toList=List.replicate N (.bool false):=by
 apply List.ext_getElem
 ·simp[madeCells]
 ·intro i h1 h2;simp[madeCells,Value.cells,Nat.mod_one]
def zew(n a:Nat):List Bool:=(List.replicate (n+1) false).set a true
theorem zfJ(n a:Nat)(h:a<=n):zdd n (zew n a) (· = a):=by
 refine⟨by simp[zew],fun j=>?_⟩;unfold zew;rw[zu3,zve]
 by_cases e:a=j
 ·subst e;rw[zv3 rfl,zv3 (by simp;omega)];simp
 ·rw[zv2 e];have:(List.replicate (n+1) false)[j]?.getD false=false:=by
   rw[List.getElem?_replicate];split<;>rfl
  rw[this];constructor
  ·intro h;cases h
  ·intro h;exact absurd h.symm e
theorem zlX(n a:Nat)(w:World)(ha:a<=n)(hn:n<=1048576):
  Calls Tryz.prog 91 #[.int .i64 n,.int .i64 a] w fun e w'=>e=.returned (.slice (some ⟨w.heap.size,0,none⟩) (n+1) (n+1))/\zbB w' w.heap.size (zew n a)/\Below w.heap.size w w':=by
 obtain⟨i0,hi,hz0,hz1,hz2⟩:=info_parts Tryz.infoBoolE
 go_enter Tryz.func91,Tryz.ntmps91
 go_wp2_with (refine wpList_make_full _ rfl _ _ 144 rfl w.heap.size 4 i0 _ 1 Tryz.underlying144 hi hz0 hz1 _ _ _ _ (n+1) rfl rfl (by first|rfl|omega) (by first|rfl|omega) (by rw[hz2];omega) (by unfold maxLen;omega) (zvJ _) ?_;intro w1 hown hgrow;rw[zio] at hown;obtain⟨u0,d0⟩:=zbC hown (j:=a) (by omega);have f0:=hown.frozenAt a)
 have hbw:Below w.heap.size w w1:=(Below.refl _ _).grown hgrow (zvJ _) (by intro k h;cases h);obtain⟨s1,s2⟩:=hown.stored a (.bool true);refine zvV (v:=.slice (some ⟨w.heap.size,0,none⟩) (n+1) (n+1)) (by simp[results,Tryz.results91,go_sem]) rfl ⟨rfl,⟨zcE s1,fun i hi=>?_⟩,hbw.setCell (by simp) _⟩;rw[s1.cellAt i (by simp[zew] at hi;omega)];rw[show (List.replicate (n+1) (Value.bool false)).set a (.bool true)=(zew n a).map Value.bool by simp[zew,List.map_set]];rw[zvd,zu3,zva hi]
 rfl
end
section
variable{w w':World}{g:Nat}{A B:List Bool}
open Go.RowKit
attribute [local go_sem ↓] Go.wp_at_zero Go.wp_at_succ
structure BrAt(w:World)(ns:List zaq)(vn:Value)(gl gr:Nat):Prop where
 nodes:zaI 0 w vn ns
 ltl:gl<w.heap.size
 ltr:gr<w.heap.size
 left:∀i,i<ns.length->w.cell? ⟨gl,i,none⟩=some (.int .i64 (zbL ns i))
 right:∀i,i<ns.length->w.cell? ⟨gr,i,none⟩=some (.int .i64 (zbD ns i))
theorem BrAt.below{ns:List zaq}{vn:Value}{gl gr:Nat}(h:BrAt w ns vn gl gr)(hb:Below w.heap.size w w'):BrAt w' ns vn gl gr:=
 ⟨h.nodes.below hb,zvL h.ltl hb.size,zvL h.ltr hb.size,fun i hi=>(hb.cell (p:=⟨gl,i,none⟩) h.ltl).trans (h.left i hi),fun i hi=>(hb.cell (p:=⟨gr,i,none⟩) h.ltr).trans (h.right i hi)⟩
def zoG(w:World)(t:ByteArray)(m:Nat)(P:Nat->Prop)(e:Ending)(w':World):Prop:=
 ∃(g' cap':Nat) (S':List Bool),e=.returned (.slice (some ⟨g',0,none⟩) m cap')/\zbB w' g' S'/\S'.length=m/\zdd t.size S' P/\Below w.heap.size w w'
def zcl(ns:List zaq)(n:Nat):Prop:=
 ∀(w:World) (ao:Option Addr) (c gl cl gr cr:Nat) (t:ByteArray) (g cap m:Nat) (S:List Bool) (F:Nat->Prop),BrAt w ns (.slice ao ns.length c) gl gr->zbB w g S->S.length=m->zdd t.size S F->t.size<=4096->
  Calls Tryz.prog 90 #[.agg #[.slice ao ns.length c,.slice (some ⟨gl,0,none⟩) ns.length cl,.slice (some ⟨gr,0,none⟩) ns.length cr,.string t],.int .i64 n,.slice (some ⟨g,0,none⟩) m cap] w fun e w'=>zoG w t m (zbc t.data.toList (In (tOf ns n)) F) e w'
theorem zaH{a b c d:Value}{t:TypeId}(h:w.heap[g]?=some (.cells #[a,b,c,d] t (0,0))):w.cell? ⟨g,0,none⟩=some a/\w.cell? ⟨g,1,none⟩=some b/\w.cell? ⟨g,2,none⟩=some c/\w.cell? ⟨g,3,none⟩=some d:=by
 have:∀o,w.cell? ⟨g,o,none⟩=#[a,b,c,d][o]?:=fun _=>zvW _ _ _ _ _ _ h
 exact⟨this 0,this 1,this 2,this 3⟩
def zhA(A:List Bool):Nat:=A.countP id
theorem zsy(A:List Bool):zhA A<=A.length:=List.countP_le_length
theorem zni:∀(A B:List Bool),A.length=B.length->(∀i,A.getD i false=true->B.getD i false=true)->zhA A<=zhA B/\((∃i,B.getD i false=true/\A.getD i false=false)->zhA A<zhA B)
 |[],[],_,_=>⟨zvJ _,fun⟨i,h,_⟩=>by simp at h⟩
 |[],_::_,h,_=>by simp at h
 |_::_,[],h,_=>by simp at h
 |a::A,b::B,hl,h=>by
  have ih:=zni A B (by simpa using hl) (fun i hi=>by have:=h (i+1);simpa using this (by simpa using hi));have h0:a=true->b=true:=by have:=h 0;simpa using this
  have e:∀(x:Bool) (X:List Bool),zhA (x::X)=zhA X+(if x=true then 1 else 0):=by
   intro x X;simp[zhA,List.countP_cons]
  rw[e,e];refine⟨?_,?_⟩
  ·cases a<;>cases b<;>simp at h0 ⊢<;>omega
  ·rintro ⟨i,hb,ha⟩;cases i with
   |zero=>
    have hb':b=true:=by simpa using hb
    have ha':a=false:=by simpa using ha
    subst hb' ha';simp;omega
   |succ i=>
    have:=ih.2 ⟨i,by simpa using hb,by simpa using ha⟩;cases a<;>cases b<;>simp at h0 ⊢<;>omega
theorem zsz(hl:A.length=B.length)(h:zfx A B A.length=true):zhA A+1<=zhA (orL A B):=by
 refine(zni A (orL A B) (zfN A B).symm fun i hi=>?_).2 ?_
 ·by_cases e:i<A.length
  ·rw[zji _ _ e,hi];rfl
  ·rw[zu3,zvb (by omega)] at hi;cases hi
 ·obtain⟨i,hi,h2⟩:=zuQ.1 h;simp at hi h2;exact⟨i,by rw[zji _ _ hi];simp[h2.1],h2.2⟩
theorem zsY{n:Nat}{P Q:Nat->Prop}(hA:zdd n A P)(hB:zdd n B Q)(m:Nat)(hm:A.length=m)(h:zfx A B m=false):∀j,Q j->P j:=by
 intro j hj;have hj':=hB.le j hj;have h1:=(hB.iff j).2 hj;rw[<-hA.iff];cases hq:A.getD j false
 ·exfalso
  have:zfx A B m=true:=zuQ.2 ⟨j,by simp;have:=hA.len;omega,by rw[h1,hq];rfl⟩;rw[h] at this;cases this
 ·rfl
theorem zaz{o:Obj}(h:w.heap[g]?=some o)(hb:Below w.heap.size w w'):w'.heap[g]?=some o:=(hb.block g (zuH.1 h).1).trans h
structure CopS(w wr:World)(ob:Obj)(g n m:Nat)(C:List Bool)(P:Nat->Prop):Prop where
 below:Below w.heap.size w wr
 row:wr.heap[w.heap.size]?=some ob
 at_:zbB wr g C
 len:C.length=m
 set:zdd n C P
def Cop1(w:World)(ob:Obj)(t:ByteArray)(m:Nat)(b:Pt)(F:Nat->Prop)(mn:Nat)(cur k:Value)(wr:World):Prop:=
 ∃(gg cc kk:Nat) (C:List Bool),kk<=mn/\cur=.slice (some ⟨gg,0,none⟩) m cc/\k=.int .i64 kk/\CopS w wr ob gg t.size m C (zbc t.data.toList (Pow (In b) kk) F)
def Cop2(w:World)(ob:Obj)(t:ByteArray)(m:Nat)(b:Pt)(F:Nat->Prop)(kk:Nat)(mx:Int)(cur all k:Value)(wr:World):Prop:=
 ∃(gg cc ga ca k2:Nat) (C A:List Bool),kk<=k2/\(mx=-1\/(k2:Int)<=mx)/\cur=.slice (some ⟨gg,0,none⟩) m cc/\all=.slice (some ⟨ga,0,none⟩) m ca/\k=.int .i64 k2/\CopS w wr ob gg t.size m C (zbc t.data.toList (Pow (In b) k2) F)/\zbB wr ga A/\Hid (A.length=m)/\zdd t.size A (fun j=>∃i,kk<=i/\i<=k2/\zbc t.data.toList (Pow (In b) i) F j)/\Hid (k2<=kk+zhA A)
theorem zjQ(ns:List zaq)(x:Nat)(hE:zcl ns x)(w:World)(ao:Option Addr)(c gl cl gr cr:Nat)(t:ByteArray)(g cap m:Nat)(S:List Bool)(F:Nat->Prop)(mn:Nat)(mx:Int)
  (hbr:BrAt w ns (.slice ao ns.length c) gl gr) (hS:zbB w g S) (hSm:S.length=m) (hF:zdd t.size S F) (ht:t.size<=4096) (hmn:mn<=255) (hmx:mx=-1\/((mn:Int)<=mx/\mx<=255)):
  Calls Tryz.prog 114 #[.agg #[.slice ao ns.length c,.slice (some ⟨gl,0,none⟩) ns.length cl,.slice (some ⟨gr,0,none⟩) ns.length cr,.string t],.int .i64 x,.int .i64 mn,.int .i64 mx,.slice (some ⟨g,0,none⟩) m cap] w fun e w'=>zoG w t m (zbc t.data.toList (In (.rep (tOf ns x) mn mx)) F) e w':=by
 have hE':=fun(W:World) (hb:Below w.heap.size w W) (g cap:Nat) (C:List Bool) (P:Nat->Prop) (h1:zbB W g C) (h2:C.length=m) (h3:zdd t.size C P)=>hE W ao c gl cl gr cr t g cap m C P (hbr.below hb) h1 h2 h3 ht
 have Hm:Hid (m=t.size+1):=by show _=_;rw[<-hSm];exact hF.len
 have hm5:m<=1048576:=by rw[Hm.out];omega
 clear hE hbr;generalize tOf ns x=b at hE' ⊢;have hb0:Below w.heap.size w (w.alloc (.cells #[.slice ao ns.length c,.slice (some ⟨gl,0,none⟩) ns.length cl,.slice (some ⟨gr,0,none⟩) ns.length cr,.string t] 119)):=(Below.refl _ _).alloc (zvJ _) _
 go_enter Tryz.func114,Tryz.ntmps114
 go_wp2
 go_loopw [11,12] (fun cur k wr=>Cop1 w (.cells #[.slice ao ns.length c,.slice (some ⟨gl,0,none⟩) ns.length cl,.slice (some ⟨gr,0,none⟩) ns.length cr,.string t] 119 (0,0)) t m b F mn cur k wr)
  (fun _ k _=>mn-(intOf k).toNat)
 case atStart=>exact⟨g,cap,0,S,zvT _,rfl,rfl,hb0,zvZ _ _,hS.below hb0,hSm,hF.congr fun j=>(ziV (fun i hi=>by have:=hF.le i hi;simpa using this) j).symm⟩
 case round=>
  obtain⟨gg,cc,kk,C,hkk,rfl,rfl,hC⟩:=hrel;obtain⟨a0,a1,a2,a3⟩:=zaH hC.row
  by_cases hlt:kk<mn
  ·have hi1:(kk:Int)<(mn:Int):=by omega
   go_wp2_with fail
   refine(hE' _ hC.below gg cc C _ hC.at_ hC.len hC.set).mono ?_;rintro e w2 ⟨g2,c2,S2,rfl,hb2,hl2,hs2,hw2⟩;go_wp2
   go_roundw
   case rel=>exact⟨g2,c2,kk+1,S2,by omega,rfl,by go_num,zaa hC.below hC.below.size hw2,zaz hC.row hw2,hb2,hl2,hs2.congr fun j=>(zcN kk j).symm⟩
   case measure=>simp[intOf];omega
  ·have hkm:kk=mn:=by omega
   subst hkm;have hi1:¬(kk:Int)<(kk:Int):=by omega
   go_wp2;clear a0 a1 a2 a3
   go_loopw [11,13,14] (fun cur all k wr=>Cop2 w (.cells #[.slice ao ns.length c,.slice (some ⟨gl,0,none⟩) ns.length cl,.slice (some ⟨gr,0,none⟩) ns.length cr,.string t] 119 (0,0)) t m b F kk mx cur all k wr)
    (fun _ _ k _=>kk+m+1-(intOf k).toNat)
   case atStart=>exact⟨gg,cc,gg,cc,kk,C,C,zvJ _,by omega,rfl,rfl,rfl,hC,hC.at_,hC.len,hC.set.congr fun j=>⟨fun h=>⟨kk,zvJ _,zvJ _,h⟩,fun⟨i,h1,h2,h⟩=>(show i=kk by omega) ▸ h⟩,Nat.le_add_right _ _⟩
   case round=>
    clear hC hi1 hkk hlt;obtain⟨gg,cc,ga,ca,k2,C,A,hk2,hkx,rfl,rfl,rfl,hC,hA,HAl,hAs,HT⟩:=hrel;obtain⟨a0,a1,a2,a3⟩:=zaH hC.row
    by_cases hgo:mx=-1\/(k2:Int)<mx
    ·have hk3:k2<=kk+m:=by have:=zsy A;rw[HAl.out] at this;have:=HT.out;omega
     have hcond:(Hid (mx=-1)/\(mx == -1)=true)\/((mx == -1)=false/\(k2:Int)<mx):=by
      by_cases e:mx=-1
      ·exact .inl ⟨e,by rw[e];rfl⟩
      ·exact .inr ⟨zvU.2 e,by omega⟩
     have hw62:IntKind.i64.wrap ((k2:Int)+1)=(k2:Int)+1:=by rw[IntKind.wrap_i64];omega
     rcases hcond with ⟨hx1,hx2⟩|⟨hx1,hx2⟩
     all_goals
      go_wp2_with fail
      refine(hE' _ hC.below gg cc C _ hC.at_ hC.len hC.set).mono ?_;rintro e w2 ⟨g2,c2,S2,rfl,hb2,hl2,hs2,hw2⟩
      go_wp2_with fail
      refine(zsZ m A S2 ga g2 ca c2 _ (hA.below hw2) hb2 HAl.out hl2 hm5).mono ?_;rintro e w3 ⟨rfl,hw3⟩;have hA3:=(hA.below hw2).below hw3;have hB3:=hb2.below hw3;have hZ:=zaa (zaa hC.below hC.below.size hw2) (zaa hC.below hC.below.size hw2).size hw3;have hs2':zdd t.size S2 (zbc t.data.toList (Pow (In b) (k2+1)) F):=hs2.congr fun j=>(zcN k2 j).symm
      have hR3:=zaz (zaz hC.row hw2) hw3;cases hq:zfx A S2 m
      ·go_wp2;have hstop:=zpg (u:=t.data.toList) (L:=In b) (F:=F) (mn:=kk) (K:=k2) hk2 (zsY hAs hs2' m HAl.out hq);refine zvV (v:=.slice (some ⟨ga,0,none⟩) m ca) (by simp[results,Tryz.results114,go_sem]) rfl ⟨ga,ca,A,rfl,hA3,HAl.out,hAs.congr fun j=>?_,hZ⟩;rw[zmA];constructor
       ·rintro ⟨i,h1,h2,h⟩;exact⟨i,⟨h1,by omega⟩,h⟩
       ·rintro ⟨i,h1,h⟩;exact hstop i h1.1 j h
      ·go_wp2_with fail
       refine(zui m A S2 ga g2 ca c2 _ hA3 hB3 HAl.out hl2 hm5).mono ?_;rintro e w4 ⟨rfl,hO,hw4⟩;go_wp2
       go_roundw
       case rel=>
        refine⟨g2,c2,w3.heap.size,m,k2+1,S2,orL A S2,by omega,by omega,rfl,rfl,by go_num,⟨zaa hZ hZ.size hw4,zaz hR3 hw4,hB3.below hw4,hl2,hs2'⟩,hO,by show _=_;rw[zfN];exact HAl.out,(zmF hAs hs2').congr fun j=>?_,?_⟩
        ·constructor
         ·rintro (⟨i,h1,h2,h⟩|h)
          ·exact⟨i,h1,by omega,h⟩
          ·exact⟨k2+1,by omega,zvJ _,h⟩
         ·rintro ⟨i,h1,h2,h⟩
          by_cases e:i<=k2
          ·exact .inl ⟨i,h1,e,h⟩
          ·obtain rfl:i=k2+1:=by omega
           exact .inr h
        ·have:=zsz (A:=A) (B:=S2) (by rw[HAl.out,hl2]) (by rw[HAl.out];exact hq);have:=HT.out;show _<=_;omega
       case measure=>simp[intOf];omega
    ·have hx1:(mx == -1)=false:=zvU.2 (by omega);have hx2:¬(k2:Int)<mx:=by omega
     go_wp2;refine zvV (v:=.slice (some ⟨ga,0,none⟩) m ca) (by simp[results,Tryz.results114,go_sem]) rfl ⟨ga,ca,A,rfl,hA,HAl.out,hAs.congr fun j=>?_,hC.below⟩;rw[zmA];constructor
     ·rintro ⟨i,h1,h2,h⟩;exact⟨i,⟨h1,by omega⟩,h⟩
     ·rintro ⟨i,h1,h⟩;exact⟨i,h1.1,by have:=h1.2;omega,h⟩
end
variable{m g k:Nat}{w wr:World}{ob nb:Obj}{T:List Bool}
open Go.RowKit
attribute [local go_sem ↓] Go.wp_at_zero Go.wp_at_succ
def setL(m:Nat)(S:List Bool)(f:Nat->Bool)(u:Word):Nat->List Bool
 |0=>List.replicate m false
 |k+1=>if (S.getD k false&&f (u.getD k 0).toNat)=true then (setL m S f u k).set (k+1) true else setL m S f u k
theorem zfh(m:Nat)(S:List Bool)(f:Nat->Bool)(u:Word):∀k,(setL m S f u k).length=m
 |0=>by simp[setL]
 |k+1=>by rw[setL];split<;>simp[zfh m S f u k]
theorem zm9(m:Nat)(S:List Bool)(f:Nat->Bool)(u:Word):∀k,k<m->∀j,(setL m S f u k).getD j false=true↔∃i,i<k/\j=i+1/\S.getD i false=true/\f (u.getD i 0).toNat=true
 |0,_,j=>by
  rw[setL,zu3,List.getElem?_replicate];constructor
  ·intro h;split at h<;>cases h
  ·rintro ⟨i,h,_⟩;exact absurd h (zvQ _)
 |k+1,hk,j=>by
  have ih:=zm9 m S f u k (by omega) j;rw[setL];split
  ·rename_i hc
   rw[zuK] at hc;rw[zu3,zve]
   by_cases e:k+1=j
   ·rw[zv3 e,zv3 (by rw[zfh];omega)];exact⟨fun _=>⟨k,by omega,e.symm,hc⟩,fun _=>rfl⟩
   ·rw[zv2 e,<-zu3,ih];constructor
    ·rintro ⟨i,h1,h2⟩;exact⟨i,by omega,h2⟩
    ·rintro ⟨i,h1,h2,h3⟩;exact⟨i,by omega,h2,h3⟩
  ·rename_i hc
   rw[ih];constructor
   ·rintro ⟨i,h1,h2⟩;exact⟨i,by omega,h2⟩
   ·rintro ⟨i,h1,h2,h3,h4⟩;refine⟨i,?_,h2,h3,h4⟩
    by_cases e:i=k
    ·subst e;exact absurd (by rw[h3,h4];rfl) hc
    ·omega
theorem zpC{S:List Bool}{f:Nat->Bool}{u:Word}{F:Nat->Prop}(hm:m=u.length+1)(hF:zdd u.length S F):zdd u.length (setL m S f u u.length) (zbc u (In (.set f)) F):=by
 refine⟨by rw[zfh,hm],fun j=>?_⟩;rw[zm9 m S f u u.length (by omega),zrk];constructor
 ·rintro ⟨i,h1,h2,h3,h4⟩;exact⟨i,h1,h2,(hF.iff i).1 h3,by simpa [List.getD_eq_getElem?_getD,List.getElem?_eq_getElem h1] using h4⟩
 ·rintro ⟨i,h1,h2,h3,h4⟩;exact⟨i,h1,h2,(hF.iff i).2 h3,by simpa [List.getD_eq_getElem?_getD,List.getElem?_eq_getElem h1] using h4⟩
theorem zcp{o:Obj}(h:w.heap[g]?=some o):g<w.heap.size:=(zuH.1 h).1
structure SetI(w wr:World)(ob nb:Obj)(m k:Nat)(T:List Bool):Prop where
 below:Below w.heap.size w wr
 box:wr.heap[w.heap.size]?=some ob
 node:wr.heap[w.heap.size+1]?=some nb
 row:wr.ownsRow w.heap.size 4 1 (.slice (some ⟨w.heap.size+1+1,0,none⟩) m m) m (T.map Value.bool)
theorem SetI.call{w2:World}(h:SetI w wr ob nb m k T)(hb:Below wr.heap.size wr w2):SetI w w2 ob nb m (k+1) T:=
 ⟨zaa h.below h.below.size hb,zaz h.box hb,zaz h.node hb,zac h.row hb⟩
theorem SetI.drew(h:SetI w wr ob nb m k T):SetI w wr.drew ob nb m (k+1) T:=h.call (Below.refl _ _).drew
theorem SetI.put{j:Nat}(h:SetI w wr ob nb m k T):SetI w (wr.setCell ⟨w.heap.size+1+1,j,none⟩ (.bool true)) ob nb m k (T.set j true):=
 ⟨h.below.setCell (by simp;omega) _,(Below.heap_setCell _ _ _ _ (by simp;omega)).trans h.box,(Below.heap_setCell _ _ _ _ (by simp)).trans h.node,by rw[List.map_set];exact(h.row.stored j (.bool true)).1⟩
theorem zbV{a b c d e:Value}{t:TypeId}(h:w.heap[g]?=some (.cells #[a,b,c,d,e] t (0,0))):w.cell? ⟨g,0,none⟩=some a/\w.cell? ⟨g,1,none⟩=some b/\w.cell? ⟨g,2,none⟩=some c/\w.cell? ⟨g,3,none⟩=some d/\w.cell? ⟨g,4,none⟩=some e:=by
 have:∀o,w.cell? ⟨g,o,none⟩=#[a,b,c,d,e][o]?:=fun _=>zvW _ _ _ _ _ _ h
 exact⟨this 0,this 1,this 2,this 3,this 4⟩
theorem zpd(ns:List zaq)(n:Nat)(hn:n<ns.length)(hk:zat ns n=1)(hT:tOf ns n=.set (hasF (ns.getD n .zero).set)):zcl ns n:=by
 intro w ao c gl cl gr cr t g cap m S F hbr hS hSm hF ht;rw[hT];obtain⟨ao2,cap2,hv,hml,hc⟩:=hbr.nodes;cases hv;obtain⟨b,o,sv,nd,rfl,Hn,hbl,c0,c1,c2,c3,c4,hsv⟩:=hc.elem (Below.refl _ _) hn;have hk1:nd.kind=1:=by rw[<-hk];unfold zat;rw[Hn.out]
 rw[hk1] at c0;rw[Hn.out];have hsv0:=hsv;obtain⟨sao,scp,rfl,hsm,hsc⟩:=hsv;have Hm:Hid (m=t.size+1):=by show _=_;rw[<-hSm];exact hF.len
 have hm5:m<=1048576:=by rw[Hm.out];omega
 have hm6:t.size<m:=by rw[Hm.out];omega
 have hHas:=fun(W:World) (hb:Below w.heap.size w W) (ch:Nat) (h8:ch<256)=>zt0 _ nd.set ch W (hsv0.below hb) h8
 clear hk hT hk1 hc hsc hsv0;obtain⟨i0,hi,hz0,hz1,hz2⟩:=info_parts Tryz.infoBoolE;have hi0:(0:Int)<=(n:Int):=by omega
 have hi1:(n:Int)<(ns.length:Int):=by omega
 go_enter Tryz.func90,Tryz.ntmps90
 go_wp2_with (refine wpList_make_full _ rfl _ _ 144 rfl w.heap.size 4 i0 _ 1 Tryz.underlying144 hi hz0 hz1 _ _ _ _ m rfl rfl rfl rfl (by rw[hz2];omega) (by unfold maxLen;omega) (by simp;omega) ?_;intro w1 hown hgrow;rw[zio] at hown)
 have hI0:SetI w w1 (.cells #[.slice (some ⟨b,o,none⟩) ns.length c,.slice (some ⟨gl,0,none⟩) ns.length cl,.slice (some ⟨gr,0,none⟩) ns.length cr,.string t] 119 (0,0)) (.cells #[.int .i64 1,.slice sao nd.set.length scp,.int .i64 nd.min,.int .i64 nd.max,.int .i64 nd.group] 149 (0,0)) m 0 (setL m S (hasF nd.set) t.data.toList 0):=by
  have hba:=((Below.refl w.heap.size w).alloc (zvJ _) (.cells #[.slice (some ⟨b,o,none⟩) ns.length c,.slice (some ⟨gl,0,none⟩) ns.length cl,.slice (some ⟨gr,0,none⟩) ns.length cr,.string t] 119)).alloc (by simp) (.cells #[.int .i64 1,.slice sao nd.set.length scp,.int .i64 nd.min,.int .i64 nd.max,.int .i64 nd.group] 149);refine⟨hba.grown hgrow (by simp;omega) (by intro k h;cases h),?_,?_,?_⟩
  ·exact(hgrow.block _ (by simp;omega) (by simp)).trans (zak (zvZ _ _))
  ·refine(hgrow.block _ (by simp) (by simp)).trans ?_;have:=zvZ (w.alloc (.cells #[.slice (some ⟨b,o,none⟩) ns.length c,.slice (some ⟨gl,0,none⟩) ns.length cl,.slice (some ⟨gr,0,none⟩) ns.length cr,.string t] 119)) (.cells #[.int .i64 1,.slice sao nd.set.length scp,.int .i64 nd.min,.int .i64 nd.max,.int .i64 nd.group] 149)
   simpa using this
  ·simpa [setL] using hown
 clear hown hgrow c0 c1 c2 c3 c4
 go_loopw [9] (fun i wr=>∃k:Nat,k<=t.size/\i=.int .i64 k/\SetI w wr (.cells #[.slice (some ⟨b,o,none⟩) ns.length c,.slice (some ⟨gl,0,none⟩) ns.length cl,.slice (some ⟨gr,0,none⟩) ns.length cr,.string t] 119 (0,0)) (.cells #[.int .i64 1,.slice sao nd.set.length scp,.int .i64 nd.min,.int .i64 nd.max,.int .i64 nd.group] 149 (0,0)) m k (setL m S (hasF nd.set) t.data.toList k)) (fun i _=>t.size-(intOf i).toNat)
 case atStart=>exact⟨0,zvT _,rfl,hI0⟩
 case round=>
  clear hI0;obtain⟨k,hk,rfl,hI⟩:=hrel;obtain⟨a0,a1,a2,a3⟩:=zaH hI.box
  by_cases hlt:k<t.size
  ·have Hs:Hid (setL m S (hasF nd.set) t.data.toList (k+1)=if (S.getD k false&&hasF nd.set (t.data.toList.getD k 0).toNat)=true then (setL m S (hasF nd.set) t.data.toList k).set (k+1) true else setL m S (hasF nd.set) t.data.toList k):=rfl;have g0:=(hI.below.cell (p:=⟨g,k,none⟩) hS.1).trans (hS.2 k (by rw[hSm];omega));obtain⟨n0,n1,n2,n3,n4⟩:=zbV hI.node;have hj0:(0:Int)<=(k:Int):=by omega
   have hj1:(k:Int)<(m:Int):=by omega
   have hj2:(k:Int)<(t.size:Int):=by omega
   generalize S.getD k false=a at *;have hlg:g<wr.heap.size:=zvL hS.1 hI.below.size;have hlb:=zcp hI.box;have hln:=zcp hI.node;have hch:=fun(W:World) (hb:Below w.heap.size w W)=>hHas W hb (t[k]'hlt).toNat (UInt8.toNat_lt _)
   have HC:Hid ((t.data.toList.getD k 0).toNat=(t[k]'hlt).toNat):=by
    show _=_;rw[zu3,zva (show k<t.data.toList.length by simpa using hlt)]
    rfl
   cases a
   ·go_wp2
    go_region
    go_wp2
    go_roundw
    case rel=>exact⟨k+1,by omega,by go_num,by rw[Hs.out,Bool.false_and,zv2 (by decide)];exact hI.drew⟩
    case measure=>simp[intOf];omega
   ·go_wp2
    go_region_held3 (fun w'=>w'.cell? ⟨g,k,none⟩=some (.bool true)/\w'.cell? ⟨w.heap.size,3,none⟩=some (.string t)/\w'.cell? ⟨w.heap.size+1,1,none⟩=some (.slice sao nd.set.length scp)) ((first|go_keep|exact⟨(hb2.cell (by exact hlg)).trans g0,(hb2.cell (by exact hlb)).trans a3,(hb2.cell (by exact hln)).trans n1⟩)) ((go_at_call 112;refine(hch _ hI.drew.below).mono ?_;rintro e w2 ⟨rfl,hb2⟩))
    have hbd:Below wr.heap.size wr w2:=zaa (Below.refl _ _).drew (zvJ _) hb2;have hI2:=hI.call hbd;rw[<-HC.out];cases hq:hasF nd.set (t.data.toList.getD k 0).toNat
    ·go_wp2
     go_roundw
     case rel=>exact⟨k+1,by omega,by go_num,by rw[Hs.out,hq,Bool.and_false,zv2 (by decide)];exact hI2⟩
     case measure=>simp[intOf];omega
    ·obtain⟨u0,d0⟩:=zbC hI2.row (j:=k+1) (by omega);have f0:=hI2.row.frozenAt (k+1);have hj3:(k:Int)+1<(m:Int):=by omega
     go_wp2
     go_roundw
     case rel=>exact⟨k+1,by omega,by go_num,by rw[Hs.out,hq,Bool.and_true,zv3 rfl];exact hI2.put⟩
     case measure=>simp[intOf];omega
  ·have hkk:k=t.size:=by omega
   go_wp2;have hu:t.data.toList.length=t.size:=by simp
   have hs:=zpC (m:=m) (S:=S) (f:=hasF nd.set) (u:=t.data.toList) (F:=F) (by rw[hu];exact Hm.out) (by rw[hu];exact hF);rw[hu,<-hkk] at hs;refine zvV (v:=.slice (some ⟨w.heap.size+1+1,0,none⟩) m m) (by simp[results,Tryz.results90,go_sem]) rfl ⟨_,_,_,rfl,⟨zcE hI.row,fun i hi=>?_⟩,zfh _ _ _ _ _,by rw[<-hkk];exact hs,hI.below⟩;rw[hI.row.cellAt i (by rw[zfh] at hi;omega),zvd,zu3,zva hi]
   rfl
end Go.Proofs.YtdimhpfiieepiaaGreatDoor
