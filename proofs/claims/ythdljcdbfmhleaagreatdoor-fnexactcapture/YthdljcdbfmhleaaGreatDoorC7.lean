import Derived.Test.YthdljcdbfmhleaaGreatDoorC3
namespace Go.Proofs.YthdljcdbfmhleaaGreatDoor
section
variable {fol fol':Nat -> Nat -> Prop}{first D last f D1 D2 f1 l1 f2 l2 l:Nat -> Prop}{e e1 e2:Prop}
inductive Pt where
 |set (f:Nat->Bool)
 |seq (l r:Pt)
 |alt (l r:Pt)
 |rep (b:Pt) (mn mx:Int)
 |grp (b:Pt) (g:Int)
abbrev Word:=List UInt8
def Pow(L:Word->Prop):Nat->Word->Prop
 |0,u=>u=[]
 |k+1,u=>∃x y,u=x++y/\L x/\Pow L k y
def In:Pt->Word->Prop
 |.set f,u=>∃c:UInt8,u=[c]/\f c.toNat=true
 |.seq l r,u=>∃x y,u=x++y/\In l x/\In r y
 |.alt l r,u=>In l u\/In r u
 |.rep b mn mx,u=>∃k:Nat,mn<=k/\(mx=-1\/(k:Int)<=mx)/\Pow (In b) k u
 |.grp b _,u=>In b u
theorem Pow.snoc{L:Word->Prop}:∀{k:Nat} {x y:Word},Pow L k x->L y->Pow L (k+1) (x++y)
 |0,x,y,h,hy=>by subst h;exact⟨y,[],by simp,hy,rfl⟩
 |k+1,x,y,⟨a,b,e,ha,hb⟩,hy=>⟨a,b++y,by rw[e,zrl],ha,Pow.snoc hb hy⟩
theorem Pow.unsnoc{L:Word->Prop}:∀{k:Nat} {u:Word},Pow L (k+1) u->∃x y,u=x++y/\Pow L k x/\L y
 |0,_,⟨a,b,e,ha,hb⟩=>by cases hb;exact⟨[],a,by rw[e];simp,rfl,ha⟩
 |k+1,_,⟨a,b,e,ha,hb⟩=>by
  obtain⟨x,y,e2,hx,hy⟩:=Pow.unsnoc hb;exact⟨a++x,y,by rw[e,e2,zrl],⟨a,x,rfl,ha,hx⟩,hy⟩
theorem Pow.congr{L M:Word->Prop}(h:∀u,L u↔M u):∀(k:Nat) (u:Word),Pow L k u↔Pow M k u
 |0,_=>Iff.rfl
 |k+1,_=>⟨fun⟨a,b,e,ha,hb⟩=>⟨a,b,e,(h a).1 ha,(Pow.congr h k b).1 hb⟩,fun⟨a,b,e,ha,hb⟩=>⟨a,b,e,(h a).2 ha,(Pow.congr h k b).2 hb⟩⟩
inductive Run (tk:Nat->UInt8->Prop) (fol:Nat->Nat->Prop) (first:Nat->Prop):Word->Nat->Prop
 |one (c:UInt8) (p:Nat):first p->tk p c->Run tk fol first [c] p
 |snoc (u:Word) (c:UInt8) (p q:Nat):Run tk fol first u p->fol p q->tk q c->Run tk fol first (u++[c]) q
theorem Run.mono{tk:Nat->UInt8->Prop}{first':Nat->Prop}(hf:∀p q,fol p q->fol' p q)(hi:∀p,first p->first' p){u:Word}{p:Nat}(h:Run tk fol first u p):Run tk fol' first' u p:=by
 induction h with
 |one c p a b=>exact .one c p (hi p a) b
 |snoc u c p q _ a b ih=>exact .snoc u c p q ih (hf p q a) b
theorem Run.inside{tk:Nat->UInt8->Prop}(hi:∀p,first p->D p)(hf:∀p q,D p->fol p q->D q){u:Word}{p:Nat}(h:Run tk fol first u p):D p:=by
 induction h with
 |one c p a b=>exact hi p a
 |snoc u c p q _ a b ih=>exact hf p q ih a
theorem Run.ne{tk:Nat->UInt8->Prop}{u:Word}{p:Nat}(h:Run tk fol first u p):u≠[]:=by
 cases h<;>simp
theorem Run.congrD{tk:Nat->UInt8->Prop}(hi:∀p,first p->D p)(hf:∀p q,D p->fol p q->D q)(he:∀p q,D p->(fol p q↔fol' p q)){u:Word}{p:Nat}:Run tk fol first u p↔Run tk fol' first u p:=by
 constructor
 ·intro h
  induction h with
  |one c p a b=>exact .one c p a b
  |snoc u c p q h a b ih=>exact .snoc u c p q ih ((he p q (h.inside hi hf)).1 a) b
 ·intro h;have:∀{u p},Run tk fol' first u p->Run tk fol first u p/\D p:=by
   intro u p h
   induction h with
   |one c p a b=>exact⟨.one c p a b,hi p a⟩
   |snoc u c p q h a b ih=>have k:=(he p q ih.2).2 a;exact⟨.snoc u c p q ih.1 k b,hf p q ih.2 k⟩
  exact(this h).1
def Acc(tk:Nat->UInt8->Prop)(fol:Nat->Nat->Prop)(e:Prop)(first last:Nat->Prop)(u:Word):Prop:=(u=[]/\e)\/∃p,Run tk fol first u p/\last p
structure Good(tk:Nat->UInt8->Prop)(fol:Nat->Nat->Prop)(D:Nat->Prop)(e:Prop)(first last:Nat->Prop)(L:Word->Prop):Prop where
 fi:∀p,first p->D p
 la:∀p,last p->D p
 fo:∀p q,D p->fol p q->D q
 lang:∀u,Acc tk fol e first last u↔L u
theorem Good.congr{tk:Nat->UInt8->Prop}{L:Word->Prop}(h:Good tk fol D e first last L)(he:∀p q,D p->(fol' p q↔fol p q)):Good tk fol' D e first last L:=by
 refine⟨h.fi,h.la,fun p q hp hq=>h.fo p q hp ((he p q hp).1 hq),fun u=>?_⟩;rw[<-h.lang u];unfold Acc;have:∀p,Run tk fol' first u p↔Run tk fol first u p:=fun p=>(Run.congrD h.fi h.fo (fun p q hp=>(he p q hp).symm)).symm
 simp only[this]
theorem Good.tk{tk tk':Nat->UInt8->Prop}{L:Word->Prop}(h:Good tk fol D e first last L)(he:∀p c,D p->(tk' p c↔tk p c)):Good tk' fol D e first last L:=by
 refine⟨h.fi,h.la,h.fo,fun u=>?_⟩;rw[<-h.lang u];unfold Acc;have a1:∀{t t':Nat->UInt8->Prop},(∀p c,D p->(t' p c->t p c))->∀{u p},Run t' fol first u p->Run t fol first u p:=by
  intro t t' ht u p hr
  induction hr with
  |one c p a b=>exact .one c p a (ht p c (h.fi p a) b)
  |snoc u c p q hr a b ih=>exact .snoc u c p q ih a (ht q c (h.fo p q (ih.inside h.fi h.fo) a) b)
 have:∀p,Run tk' fol first u p↔Run tk fol first u p:=fun p=>⟨a1 fun p c hp=>(he p c hp).1,a1 fun p c hp=>(he p c hp).2⟩
 simp only[this]
theorem Good.words{tk:Nat->UInt8->Prop}{L M:Word->Prop}(h:Good tk fol D e first last L)(hl:∀u,L u↔M u):Good tk fol D e first last M:=⟨h.fi,h.la,h.fo,fun u=>(h.lang u).trans (hl u)⟩
theorem Good.opt{tk:Nat->UInt8->Prop}{L:Word->Prop}(h:Good tk fol D e first last L):Good tk fol D True first last (fun u=>u=[]\/L u):=by
 refine⟨h.fi,h.la,h.fo,fun u=>?_⟩;have:=h.lang u;unfold Acc at this ⊢;constructor
 ·rintro (k|k)
  ·exact .inl k.1
  ·exact .inr (this.1 (.inr k))
 ·rintro (k|k)
  ·exact .inl ⟨k,trivial⟩
  ·rcases this.2 k with k|k
   ·exact .inl ⟨k.1,trivial⟩
   ·exact .inr k
theorem zmP(tk:Nat->UInt8->Prop)(fol:Nat->Nat->Prop)(e:Prop):Good tk fol (fun _=>False) e (fun _=>False) (fun _=>False) (fun u=>u=[]/\e):=
 ⟨fun _ h=>h,fun _ h=>h,fun _ _ h=>h.elim,fun u=>⟨fun h=>by rcases h with h|⟨p,_,h⟩;exact h;exact h.elim,.inl⟩⟩
theorem zou{tk:Nat->UInt8->Prop}{f:Nat->Bool}{n:Nat}(ht:∀c,tk n c↔f c.toNat=true)(hf:∀q,¬fol n q):Good tk fol (· = n) False (· = n) (· = n) (In (.set f)):=by
 refine⟨fun _ h=>h,fun _ h=>h,fun p q hp hq=>absurd (hp ▸ hq) (hf q),fun u=>?_⟩;unfold Acc;constructor
 ·rintro (h|⟨p,hr,hp⟩)
  ·exact h.2.elim
  ·cases hr with
   |one c _ a b=>rw[hp] at b;exact⟨c,rfl,(ht c).1 b⟩
   |snoc u c q _ hr a b=>
    have:=hr.inside (D:=(· = n)) (fun p hp=>hp) (fun p q hp hq=>absurd (hp ▸ hq) (hf q));rw[this] at a;exact absurd a (hf _)
 ·rintro ⟨c,rfl,h⟩;exact .inr ⟨n,.one c n rfl ((ht c).2 h),rfl⟩
theorem zot{tk:Nat->UInt8->Prop}{L1 L2:Word->Prop}
  (g1:Good tk fol D1 e1 f1 l1 L1) (g2:Good tk fol D2 e2 f2 l2 L2) (hd:∀p,D1 p->¬D2 p):
  Good tk fol (fun p=>D1 p\/D2 p) (e1\/e2) (fun p=>f1 p\/f2 p) (fun p=>l1 p\/l2 p) (fun u=>L1 u\/L2 u):=by
 refine⟨fun p h=>h.imp (g1.fi p) (g2.fi p),fun p h=>h.imp (g1.la p) (g2.la p),fun p q hp hq=>hp.imp (fun k=>g1.fo p q k hq) (fun k=>g2.fo p q k hq),fun u=>?_⟩;have key:∀{u p},Run tk fol (fun p=>f1 p\/f2 p) u p->Run tk fol f1 u p\/Run tk fol f2 u p:=by
  intro u p h
  induction h with
  |one c p a b=>exact a.imp (.one c p · b) (.one c p · b)
  |snoc u c p q _ a b ih=>exact ih.imp (.snoc u c p q · a b) (.snoc u c p q · a b)
 rw[<-g1.lang u,<-g2.lang u];unfold Acc;constructor
 ·rintro (⟨rfl,h⟩|⟨p,hr,hl⟩)
  ·exact h.imp (fun k=>.inl ⟨rfl,k⟩) (fun k=>.inl ⟨rfl,k⟩)
  ·rcases key hr with k|k
   ·have dp:=k.inside g1.fi g1.fo;rcases hl with hl|hl
    ·exact .inl (.inr ⟨p,k,hl⟩)
    ·exact absurd (g2.la p hl) (hd p dp)
   ·have dp:=k.inside g2.fi g2.fo;rcases hl with hl|hl
    ·exact absurd dp (hd p (g1.la p hl))
    ·exact .inr (.inr ⟨p,k,hl⟩)
 ·rintro ((⟨rfl,h⟩|⟨p,hr,hl⟩)|(⟨rfl,h⟩|⟨p,hr,hl⟩))
  ·exact .inl ⟨rfl,.inl h⟩
  ·exact .inr ⟨p,hr.mono (fun _ _ h=>h) (fun _=>.inl),.inl hl⟩
  ·exact .inl ⟨rfl,.inr h⟩
  ·exact .inr ⟨p,hr.mono (fun _ _ h=>h) (fun _=>.inr),.inr hl⟩
theorem zov{tk:Nat->UInt8->Prop}{L1 L2:Word->Prop}
  (g1:Good tk fol D1 e1 f1 l1 L1) (g2:Good tk fol D2 e2 f2 l2 L2) (hd:∀p,D1 p->¬D2 p)
  (hfol:∀p q,(D1 p\/D2 p)->(fol' p q↔fol p q\/(l1 p/\f2 q)))
  (hf:∀p,f p↔f1 p\/(e1/\f2 p)) (hl:∀p,l p↔l2 p\/(e2/\l1 p)):
  Good tk fol' (fun p=>D1 p\/D2 p) (e1/\e2) f l (fun u=>∃x y,u=x++y/\L1 x/\L2 y):=by
 have up:∀p q,(D1 p\/D2 p)->fol p q->fol' p q:=fun p q h k=>(hfol p q h).2 (.inl k)
 have fi:∀p,f p->D1 p\/D2 p:=fun p h=>((hf p).1 h).imp (g1.fi p) (fun k=>g2.fi p k.2)
 have fo:∀p q,(D1 p\/D2 p)->fol' p q->D1 q\/D2 q:=fun p q hp hq=>by
  rcases(hfol p q hp).1 hq with k|k
  ·exact hp.imp (g1.fo p q · k) (g2.fo p q · k)
  ·exact .inr (g2.fi q k.2)
 -- a run of the first,a run of the second,in the whole
 have r1:∀{u p},Run tk fol f1 u p->Run tk fol' f u p:=by
  intro u p h;have:∀{u p},Run tk fol f1 u p->Run tk fol' f u p/\D1 p:=by
   intro u p h
   induction h with
   |one c p a b=>exact⟨.one c p ((hf p).2 (.inl a)) b,g1.fi p a⟩
   |snoc u c p q _ a b ih=>exact⟨.snoc u c p q ih.1 (up p q (.inl ih.2) a) b,g1.fo p q ih.2 a⟩
  exact(this h).1
 have r2:∀{x y p q},Run tk fol' f x p->l1 p->Run tk fol f2 y q->Run tk fol' f (x++y) q:=by
  intro x y p q hx hp hy;have:∀{y q},Run tk fol f2 y q->Run tk fol' f (x++y) q/\D2 q:=by
   intro y q hy
   induction hy with
   |one c b a t=>exact⟨.snoc x c p b hx ((hfol p b (.inl (g1.la p hp))).2 (.inr ⟨hp,a⟩)) t,g2.fi b a⟩
   |snoc u c a b _ g t ih=>rw[<-zrl];exact⟨.snoc _ c a b ih.1 (up a b (.inr ih.2) g) t,g2.fo a b ih.2 g⟩
  exact(this hy).1
 have r2':∀{y q},e1->Run tk fol f2 y q->Run tk fol' f y q:=by
  intro y q he hy;have:∀{y q},Run tk fol f2 y q->Run tk fol' f y q/\D2 q:=by
   intro y q hy
   induction hy with
   |one c b a t=>exact⟨.one c b ((hf b).2 (.inr ⟨he,a⟩)) t,g2.fi b a⟩
   |snoc u c a b _ g t ih=>exact⟨.snoc _ c a b ih.1 (up a b (.inr ih.2) g) t,g2.fo a b ih.2 g⟩
  exact(this hy).1
 have key:∀{u p},Run tk fol' f u p->(D1 p/\Run tk fol f1 u p)\/(D2 p/\∃x y,u=x++y/\Acc tk fol e1 f1 l1 x/\Run tk fol f2 y p):=by
  intro u p h
  induction h with
  |one c p a b=>
   rcases(hf p).1 a with a|a
   ·exact .inl ⟨g1.fi p a,.one c p a b⟩
   ·exact .inr ⟨g2.fi p a.2,[],[c],rfl,.inl ⟨rfl,a.1⟩,.one c p a.2 b⟩
  |snoc u c p q hr a b ih=>
   rcases ih with ⟨dp,k⟩|⟨dp,x,y,e,hx,hy⟩
   ·rcases(hfol p q (.inl dp)).1 a with a|a
    ·exact .inl ⟨g1.fo p q dp a,.snoc u c p q k a b⟩
    ·exact .inr ⟨g2.fi q a.2,u,[c],rfl,.inr ⟨p,k,a.1⟩,.one c q a.2 b⟩
   ·rcases(hfol p q (.inr dp)).1 a with a|a
    ·exact .inr ⟨g2.fo p q dp a,x,y++[c],by rw[e,zrl],hx,.snoc y c p q hy a b⟩
    ·exact absurd dp (hd p (g1.la p a.1))
 refine⟨fi,fun p h=>((hl p).1 h).elim (fun k=>.inr (g2.la p k)) (fun k=>.inl (g1.la p k.2)),fo,fun u=>?_⟩;constructor
 ·rintro (⟨rfl,h⟩|⟨p,hr,hp⟩)
  ·exact⟨[],[],rfl,(g1.lang []).1 (.inl ⟨rfl,h.1⟩),(g2.lang []).1 (.inl ⟨rfl,h.2⟩)⟩
  ·rcases key hr with ⟨dp,k⟩|⟨dp,x,y,e,hx,hy⟩
   ·rcases(hl p).1 hp with hp|hp
    ·exact absurd (g2.la p hp) (hd p dp)
    ·exact⟨u,[],by simp,(g1.lang u).1 (.inr ⟨p,k,hp.2⟩),(g2.lang []).1 (.inl ⟨rfl,hp.1⟩)⟩
   ·rcases(hl p).1 hp with hp|hp
    ·exact⟨x,y,e,(g1.lang x).1 hx,(g2.lang y).1 (.inr ⟨p,hy,hp⟩)⟩
    ·exact absurd dp (hd p (g1.la p hp.2))
 ·rintro ⟨x,y,rfl,hx,hy⟩;rcases(g1.lang x).2 hx with ⟨rfl,he1⟩|⟨p,hr,hp⟩
  ·rcases(g2.lang y).2 hy with ⟨rfl,he2⟩|⟨q,hq,hq2⟩
   ·exact .inl ⟨rfl,he1,he2⟩
   ·exact .inr ⟨q,r2' he1 hq,(hl q).2 (.inl hq2)⟩
  ·rcases(g2.lang y).2 hy with ⟨rfl,he2⟩|⟨q,hq,hq2⟩
   ·exact .inr ⟨p,by rw[zrm];exact r1 hr,(hl p).2 (.inr ⟨he2,hp⟩)⟩
   ·exact .inr ⟨q,r2 (r1 hr) hp hq,(hl q).2 (.inl hq2)⟩
theorem zmQ{tk:Nat->UInt8->Prop}{L:Word->Prop}
  (g:Good tk fol D e f l L) (hfol:∀p q,D p->(fol' p q↔fol p q\/(l p/\f q))):Good tk fol' D True f l (fun u=>∃k,Pow L k u):=by
 have up:∀p q,D p->fol p q->fol' p q:=fun p q h k=>(hfol p q h).2 (.inl k)
 have fo:∀p q,D p->fol' p q->D q:=fun p q hp hq=>by
  rcases(hfol p q hp).1 hq with k|k
  ·exact g.fo p q hp k
  ·exact g.fi q k.2
 have r2:∀{x y p q},Run tk fol' f x p->l p->Run tk fol f y q->Run tk fol' f (x++y) q:=by
  intro x y p q hx hp hy;have:∀{y q},Run tk fol f y q->Run tk fol' f (x++y) q/\D q:=by
   intro y q hy
   induction hy with
   |one c b a t=>exact⟨.snoc x c p b hx ((hfol p b (g.la p hp)).2 (.inr ⟨hp,a⟩)) t,g.fi b a⟩
   |snoc u c a b _ k t ih=>rw[<-zrl];exact⟨.snoc _ c a b ih.1 (up a b ih.2 k) t,g.fo a b ih.2 k⟩
  exact(this hy).1
 have r1:∀{y q},Run tk fol f y q->Run tk fol' f y q:=by
  intro y q hy;have:∀{y q},Run tk fol f y q->Run tk fol' f y q/\D q:=by
   intro y q hy
   induction hy with
   |one c b a t=>exact⟨.one c b a t,g.fi b a⟩
   |snoc u c a b _ k t ih=>exact⟨.snoc _ c a b ih.1 (up a b ih.2 k) t,g.fo a b ih.2 k⟩
  exact(this hy).1
 have back:∀k {x y q},Pow L k x->Run tk fol f y q->Run tk fol' f (x++y) q:=by
  intro k
  induction k with
  |zero=>intro x y q hx hy;cases hx;exact r1 hy
  |succ k ih=>
   intro x y q hx hy;obtain⟨x',z,rfl,hx',hz⟩:=hx.unsnoc;rcases(g.lang z).2 hz with ⟨rfl,_⟩|⟨p,hr,hp⟩
   ·rw[zrm];exact ih hx' hy
   ·exact r2 (ih hx' hr) hp hy
 have key:∀{u p},Run tk fol' f u p->D p/\∃k x y,u=x++y/\Pow L k x/\Run tk fol f y p:=by
  intro u p h
  induction h with
  |one c p a b=>exact⟨g.fi p a,0,[],[c],rfl,rfl,.one c p a b⟩
  |snoc u c p q hr a b ih=>
   obtain⟨dp,k,x,y,e,hx,hy⟩:=ih;rcases(hfol p q dp).1 a with a|a
   ·exact⟨g.fo p q dp a,k,x,y++[c],by rw[e,zrl],hx,.snoc y c p q hy a b⟩
   ·refine⟨g.fi q a.2,k+1,u,[c],rfl,?_,.one c q a.2 b⟩;rw[e];exact hx.snoc ((g.lang y).1 (.inr ⟨p,hy,a.1⟩))
 refine⟨g.fi,g.la,fo,fun u=>?_⟩;constructor
 ·rintro (⟨rfl,-⟩|⟨p,hr,hp⟩)
  ·exact⟨0,rfl⟩
  ·obtain⟨_,k,x,y,rfl,hx,hy⟩:=key hr;exact⟨k+1,hx.snoc ((g.lang y).1 (.inr ⟨p,hy,hp⟩))⟩
 ·rintro ⟨k,hk⟩
  induction k generalizing u with
  |zero=>exact .inl ⟨hk,trivial⟩
  |succ k ih=>
   obtain⟨x,y,rfl,hx,hy⟩:=hk.unsnoc;rcases(g.lang y).2 hy with ⟨rfl,_⟩|⟨p,hr,hp⟩
   ·rw[zrm];exact ih x hx
   ·exact .inr ⟨p,back k hx hr,hp⟩
def UpTo(L:Word->Prop)(n:Nat)(u:Word):Prop:=∃k,k<=n/\Pow L k u
theorem ziN(L:Word->Prop)(u:Word):(u=[]/\True)↔UpTo L 0 u:=by
 constructor
 ·rintro ⟨rfl,-⟩;exact⟨0,zsa _,rfl⟩
 ·rintro ⟨k,hk,h⟩;obtain rfl:k=0:=by omega
  exact⟨h,trivial⟩
theorem znY(L:Word->Prop)(n:Nat)(u:Word):(u=[]\/∃x y,u=x++y/\L x/\UpTo L n y)↔UpTo L (n+1) u:=by
 constructor
 ·rintro (rfl|⟨x,y,rfl,hx,k,hk,hy⟩)
  ·exact⟨0,zsj _,rfl⟩
  ·exact⟨k+1,by omega,x,y,rfl,hx,hy⟩
 ·rintro ⟨k,hk,h⟩
  match k,hk,h with
  |0,_,h=>exact .inl h
  |k+1,hk,⟨x,y,e,hx,hy⟩=>exact .inr ⟨x,y,e,hx,k,by omega,hy⟩
def zk0(L M:Word->Prop)(n:Nat)(u:Word):Prop:=∃x y,u=x++y/\Pow L n x/\M y
theorem zk6(L M:Word->Prop)(u:Word):M u↔zk0 L M 0 u:=by
 constructor
 ·intro h;exact⟨[],u,rfl,rfl,h⟩
 ·rintro ⟨x,y,rfl,hx,hy⟩;cases hx;exact hy
theorem zk5(L M:Word->Prop)(n:Nat)(u:Word):(∃x y,u=x++y/\L x/\zk0 L M n y)↔zk0 L M (n+1) u:=by
 constructor
 ·rintro ⟨x,y,rfl,hx,a,b,rfl,ha,hb⟩;exact⟨x++a,b,by rw[zrl],⟨x,a,rfl,hx,ha⟩,hb⟩
 ·rintro ⟨x,y,rfl,⟨a,b,rfl,ha,hb⟩,hy⟩;exact⟨a,b++y,by rw[zrl],ha,b,y,rfl,hb,hy⟩
theorem Pow.add{L:Word->Prop}:∀(m n:Nat) {x y:Word},Pow L m x->Pow L n y->Pow L (m+n) (x++y)
 |0,n,x,y,hx,hy=>by cases hx;simpa using hy
 |m+1,n,x,y,⟨a,b,e,ha,hb⟩,hy=>by
  rw[show m+1+n=(m+n)+1 by omega,e];exact⟨a,b++y,by rw[zrl],ha,Pow.add m n hb hy⟩
theorem Pow.split{L:Word->Prop}:∀(m n:Nat) {u:Word},Pow L (m+n) u->∃x y,u=x++y/\Pow L m x/\Pow L n y
 |0,n,u,h=>⟨[],u,rfl,rfl,by simpa using h⟩
 |m+1,n,u,h=>by
  rw[show m+1+n=(m+n)+1 by omega] at h;obtain⟨a,b,rfl,ha,hb⟩:=h;obtain⟨x,y,rfl,hx,hy⟩:=Pow.split m n hb;exact⟨a++x,y,by rw[zrl],⟨a,x,rfl,ha,hx⟩,hy⟩
theorem zpe(b:Pt)(mn:Nat)(u:Word):zk0 (In b) (fun u=>∃k,Pow (In b) k u) mn u↔In (.rep b mn (-1)) u:=by
 constructor
 ·rintro ⟨x,y,rfl,hx,k,hy⟩;exact⟨mn+k,by omega,.inl rfl,hx.add _ _ hy⟩
 ·rintro ⟨k,h1,-,h⟩;obtain⟨x,y,rfl,hx,hy⟩:=Pow.split mn (k-mn) (by rw[show mn+(k-mn)=k by omega];exact h);exact⟨x,y,rfl,hx,_,hy⟩
theorem zpf(b:Pt)(mn d:Nat)(u:Word):zk0 (In b) (UpTo (In b) d) mn u↔In (.rep b mn ((mn+d:Nat):Int)) u:=by
 constructor
 ·rintro ⟨x,y,rfl,hx,k,hk,hy⟩;exact⟨mn+k,by omega,.inr (by omega),hx.add _ _ hy⟩
 ·rintro ⟨k,h1,h2,h⟩;obtain⟨x,y,rfl,hx,hy⟩:=Pow.split mn (k-mn) (by rw[show mn+(k-mn)=k by omega];exact h);exact⟨x,y,rfl,hx,k-mn,by omega,hy⟩
theorem zoA(b:Pt)(u:Word):In (.rep b 1 1) u↔In b u:=by
 constructor
 ·rintro ⟨k,h1,h2,h⟩;obtain rfl:k=1:=by omega
  obtain⟨x,y,rfl,hx,hy⟩:=h;cases hy
  simpa using hx
 ·intro h;exact⟨1,by omega,.inr (by omega),u,[],by simp,h,rfl⟩
end
section
structure GA where
 n:Nat
 emp:Bool
 fst:Nat->Bool
 lst:Nat->Bool
 fol:Nat->Nat->Bool
 st:Nat->Nat->Bool
 fstB:∀i,fst i=true->i<n
 lstB:∀i,lst i=true->i<n
 folB:∀i j,fol i j=true->i<n/\j<n
 stB:∀i c,st i c=true->i<n
section
variable {tk:Nat->UInt8->Prop} {fol:Nat->Nat->Prop} {D:Nat->Prop} {e:Prop} {first last:Nat->Prop} {M:GA}
end
def two(n:Nat)(φ ψ:Nat->Nat)(i:Nat):Nat:=if i<n then φ i else ψ (i-n)
section
variable {tk:Nat->UInt8->Prop} {fol fol':Nat->Nat->Prop} {D E:Nat->Prop} {e1 e2:Prop} {f1 l1 f2 l2:Nat->Prop} {M N:GA} {φ ψ:Nat->Nat}
end
end


end Go.Proofs.YthdljcdbfmhleaaGreatDoor
