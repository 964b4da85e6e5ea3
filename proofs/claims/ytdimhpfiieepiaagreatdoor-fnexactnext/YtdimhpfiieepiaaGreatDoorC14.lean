import Derived.Test.YtdimhpfiieepiaaGreatDoorC9
import Derived.Deep.QuietTactic
import Derived.Deep.DrawnRows
import Derived.Deep.RegionHeld3
namespace Go.Proofs.YtdimhpfiieepiaaGreatDoor
open Proofs.Tryz
open Option renaming none->zb,some->zc
open Value renaming slice->ze,int->zf
open Go renaming World->zg,Value->zk,Calls->zl
open RowKit renaming Below->zh,Hid->zi
open Obj renaming cells->zj
set_option maxHeartbeats 2000000
set_option maxRecDepth 100000
section
variable {fol fol':Nat -> Nat -> Prop}{first D last f D1 D2 f1 l1 f2 l2 l:Nat -> Prop}{e e1 e2:Prop}
inductive Pt where
 |set (f:Nat->Bool)
 |seq (l r:Pt)
 |aQ (l r:Pt)
 |aw (b:Pt) (mn mx:Int)
 |aT (b:Pt) (g:Int)
abbrev aJ:=List UInt8
def Pow(L:aJ->Prop):Nat->aJ->Prop
 |0,u=>u=[]
 |k+1,u=>∃x y,u=x++y/\L x/\Pow L k y
def In:Pt->aJ->Prop
 |.set f,u=>∃c:UInt8,u=[c]/\f c.toNat=true
 |.seq l r,u=>∃x y,u=x++y/\In l x/\In r y
 |.aQ l r,u=>In l u\/In r u
 |.aw b mn mx,u=>∃k:Nat,mn<=k/\(mx=-1\/(k:Int)<=mx)/\Pow (In b) k u
 |.aT b _,u=>In b u
theorem Pow.snoc{L:aJ->Prop}:∀{k:Nat} {x y:aJ},Pow L k x->L y->Pow L (k+1) (x++y)
 |0,x,y,h,hy=>by subst h;exact⟨y,[],by simp,hy,rfl⟩
 |k+1,x,y,⟨a,b,e,ha,hb⟩,hy=>⟨a,b++y,by rw[e,pA],ha,Pow.snoc hb hy⟩
theorem Pow.OT{L:aJ->Prop}:∀{k:Nat} {u:aJ},Pow L (k+1) u->∃x y,u=x++y/\Pow L k x/\L y
 |0,_,⟨a,b,e,ha,hb⟩=>by cases hb;exact⟨[],a,by rw[e];simp,rfl,ha⟩
 |k+1,_,⟨a,b,e,ha,hb⟩=>by
  obtain⟨x,y,e2,hx,hy⟩:=Pow.OT hb;exact⟨a++x,y,by rw[e,e2,pA],⟨a,x,rfl,ha,hx⟩,hy⟩
theorem Pow.congr{L M:aJ->Prop}(h:∀u,L u↔M u):∀(k:Nat) (u:aJ),Pow L k u↔Pow M k u
 |0,_=>Iff.rfl
 |k+1,_=>⟨λ⟨a,b,e,ha,hb⟩=>⟨a,b,e,(h a).1 ha,(Pow.congr h k b).1 hb⟩,λ⟨a,b,e,ha,hb⟩=>⟨a,b,e,(h a).2 ha,(Pow.congr h k b).2 hb⟩⟩
inductive cN (tk:Nat->UInt8->Prop) (fol:Nat->Nat->Prop) (first:Nat->Prop):aJ->Nat->Prop
 |one (c:UInt8) (p:Nat):first p->tk p c->cN tk fol first [c] p
 |snoc (u:aJ) (c:UInt8) (p q:Nat):cN tk fol first u p->fol p q->tk q c->cN tk fol first (u++[c]) q
theorem cN.mono{tk:Nat->UInt8->Prop}{first':Nat->Prop}(hf:∀p q,fol p q->fol' p q)(hi:∀p,first p->first' p){u:aJ}{p:Nat}(h:cN tk fol first u p):cN tk fol' first' u p:=by
 induction h with
 |one c p a b=>exact .one c p (hi p a) b
 |snoc u c p q _ a b ih=>exact .snoc u c p q ih (hf p q a) b
theorem cN.inside{tk:Nat->UInt8->Prop}(hi:∀p,first p->D p)(hf:∀p q,D p->fol p q->D q){u:aJ}{p:Nat}(h:cN tk fol first u p):D p:=by
 induction h with
 |one c p a b=>exact hi p a
 |snoc u c p q _ a b ih=>exact hf p q ih a
theorem cN.ne{tk:Nat->UInt8->Prop}{u:aJ}{p:Nat}(h:cN tk fol first u p):u≠[]:=by
 cases h<;>simp
theorem cN.zxP{tk:Nat->UInt8->Prop}(hi:∀p,first p->D p)(hf:∀p q,D p->fol p q->D q)(he:∀p q,D p->(fol p q↔fol' p q)){u:aJ}{p:Nat}:cN tk fol first u p↔cN tk fol' first u p:=by
 constructor
 ·intro h
  induction h with
  |one c p a b=>exact .one c p a b
  |snoc u c p q h a b ih=>exact .snoc u c p q ih ((he p q (h.inside hi hf)).1 a) b
 ·intro h;have:∀{u p},cN tk fol' first u p->cN tk fol first u p/\D p:=by
   intro u p h
   induction h with
   |one c p a b=>exact⟨.one c p a b,hi p a⟩
   |snoc u c p q h a b ih=>have k:=(he p q ih.2).2 a;exact⟨.snoc u c p q ih.1 k b,hf p q ih.2 k⟩
  exact(this h).1
def Acc(tk:Nat->UInt8->Prop)(fol:Nat->Nat->Prop)(e:Prop)(first last:Nat->Prop)(u:aJ):Prop:=(u=[]/\e)\/∃p,cN tk fol first u p/\last p
structure Good(tk:Nat->UInt8->Prop)(fol:Nat->Nat->Prop)(D:Nat->Prop)(e:Prop)(first last:Nat->Prop)(L:aJ->Prop):Prop where
 fi:∀p,first p->D p
 la:∀p,last p->D p
 fo:∀p q,D p->fol p q->D q
 mm:∀u,Acc tk fol e first last u↔L u
theorem Good.congr{tk:Nat->UInt8->Prop}{L:aJ->Prop}(h:Good tk fol D e first last L)(he:∀p q,D p->(fol' p q↔fol p q)):Good tk fol' D e first last L:=by
 refine⟨h.fi,h.la,λp q hp hq=>h.fo p q hp ((he p q hp).1 hq),λu=>?_⟩;rw[<-h.mm u];unfold Acc;have:∀p,cN tk fol' first u p↔cN tk fol first u p:=λp=>(cN.zxP h.fi h.fo (λp q hp=>(he p q hp).symm)).symm
 simp only[this]
theorem Good.tk{tk Hc:Nat->UInt8->Prop}{L:aJ->Prop}(h:Good tk fol D e first last L)(he:∀p c,D p->(Hc p c↔tk p c)):Good Hc fol D e first last L:=by
 refine⟨h.fi,h.la,h.fo,λu=>?_⟩;rw[<-h.mm u];unfold Acc;have a1:∀{t t':Nat->UInt8->Prop},(∀p c,D p->(t' p c->t p c))->∀{u p},cN t' fol first u p->cN t fol first u p:=by
  intro t t' ht u p hr
  induction hr with
  |one c p a b=>exact .one c p a (ht p c (h.fi p a) b)
  |snoc u c p q hr a b ih=>exact .snoc u c p q ih a (ht q c (h.fo p q (ih.inside h.fi h.fo) a) b)
 have:∀p,cN Hc fol first u p↔cN tk fol first u p:=λp=>⟨a1 λp c hp=>(he p c hp).1,a1 λp c hp=>(he p c hp).2⟩
 simp only[this]
theorem Good.words{tk:Nat->UInt8->Prop}{L M:aJ->Prop}(h:Good tk fol D e first last L)(hl:∀u,L u↔M u):Good tk fol D e first last M:=⟨h.fi,h.la,h.fo,λu=>(h.mm u).trans (hl u)⟩
theorem Good.uO{tk:Nat->UInt8->Prop}{L:aJ->Prop}(h:Good tk fol D e first last L):Good tk fol D True first last (λu=>u=[]\/L u):=by
 refine⟨h.fi,h.la,h.fo,λu=>?_⟩;have:=h.mm u;unfold Acc at this ⊢;constructor
 ·rintro (k|k)
  ·exact .inl k.1
  ·exact .inr (this.1 (.inr k))
 ·rintro (k|k)
  ·exact .inl ⟨k,trivial⟩
  ·rcases this.2 k with k|k
   ·exact .inl ⟨k.1,trivial⟩
   ·exact .inr k
theorem zoY(tk:Nat->UInt8->Prop)(fol:Nat->Nat->Prop)(e:Prop):Good tk fol (λ_=>False) e (λ_=>False) (λ_=>False) (λu=>u=[]/\e):=
 ⟨λ_ h=>h,λ_ h=>h,λ_ _ h=>h.elim,λu=>⟨λh=>by rcases h with h|⟨p,_,h⟩;exact h;exact h.elim,.inl⟩⟩
theorem zqV{tk:Nat->UInt8->Prop}{f:Nat->Bool}{n:Nat}(ht:∀c,tk n c↔f c.toNat=true)(hf:∀q,¬fol n q):Good tk fol (· = n) False (· = n) (· = n) (In (.set f)):=by
 refine⟨λ_ h=>h,λ_ h=>h,λp q hp hq=>absurd (hp ▸ hq) (hf q),λu=>?_⟩;unfold Acc;constructor
 ·rintro (h|⟨p,hr,hp⟩)
  ·exact h.2.elim
  ·cases hr with
   |one c _ a b=>rw[hp]at b;exact⟨c,rfl,(ht c).1 b⟩
   |snoc u c q _ hr a b=>
    have:=hr.inside (D:=(· = n)) (λp hp=>hp) (λp q hp hq=>absurd (hp ▸ hq) (hf q));rw[this]at a;exact absurd a (hf _)
 ·rintro ⟨c,rfl,h⟩;exact .inr ⟨n,.one c n rfl ((ht c).2 h),rfl⟩
theorem zqU{tk:Nat->UInt8->Prop}{L1 L2:aJ->Prop}
  (g1:Good tk fol D1 e1 f1 l1 L1) (g2:Good tk fol D2 e2 f2 l2 L2) (hd:∀p,D1 p->¬D2 p):
  Good tk fol (λp=>D1 p\/D2 p) (e1\/e2) (λp=>f1 p\/f2 p) (λp=>l1 p\/l2 p) (λu=>L1 u\/L2 u):=by
 refine⟨λp h=>h.imp (g1.fi p) (g2.fi p),λp h=>h.imp (g1.la p) (g2.la p),λp q hp hq=>hp.imp (λk=>g1.fo p q k hq) (λk=>g2.fo p q k hq),λu=>?_⟩;have key:∀{u p},cN tk fol (λp=>f1 p\/f2 p) u p->cN tk fol f1 u p\/cN tk fol f2 u p:=by
  intro u p h
  induction h with
  |one c p a b=>exact a.imp (.one c p · b) (.one c p · b)
  |snoc u c p q _ a b ih=>exact ih.imp (.snoc u c p q · a b) (.snoc u c p q · a b)
 rw[<-g1.mm u,<-g2.mm u];unfold Acc;constructor
 ·rintro (⟨rfl,h⟩|⟨p,hr,hl⟩)
  ·exact h.imp (λk=>.inl ⟨rfl,k⟩) (λk=>.inl ⟨rfl,k⟩)
  ·rcases key hr with k|k
   ·have dp:=k.inside g1.fi g1.fo;rcases hl with hl|hl
    ·exact .inl (.inr ⟨p,k,hl⟩)
    ·exact absurd (g2.la p hl) (hd p dp)
   ·have dp:=k.inside g2.fi g2.fo;rcases hl with hl|hl
    ·exact absurd dp (hd p (g1.la p hl))
    ·exact .inr (.inr ⟨p,k,hl⟩)
 ·rintro ((⟨rfl,h⟩|⟨p,hr,hl⟩)|(⟨rfl,h⟩|⟨p,hr,hl⟩))
  ·exact .inl ⟨rfl,.inl h⟩
  ·exact .inr ⟨p,hr.mono (λ_ _ h=>h) (λ_=>.inl),.inl hl⟩
  ·exact .inl ⟨rfl,.inr h⟩
  ·exact .inr ⟨p,hr.mono (λ_ _ h=>h) (λ_=>.inr),.inr hl⟩
theorem zqW{tk:Nat->UInt8->Prop}{L1 L2:aJ->Prop}
  (g1:Good tk fol D1 e1 f1 l1 L1) (g2:Good tk fol D2 e2 f2 l2 L2) (hd:∀p,D1 p->¬D2 p)
  (yR:∀p q,(D1 p\/D2 p)->(fol' p q↔fol p q\/(l1 p/\f2 q)))
  (hf:∀p,f p↔f1 p\/(e1/\f2 p)) (hl:∀p,l p↔l2 p\/(e2/\l1 p)):
  Good tk fol' (λp=>D1 p\/D2 p) (e1/\e2) f l (λu=>∃x y,u=x++y/\L1 x/\L2 y):=by
 have up:∀p q,(D1 p\/D2 p)->fol p q->fol' p q:=λp q h k=>(yR p q h).2 (.inl k)
 have fi:∀p,f p->D1 p\/D2 p:=λp h=>((hf p).1 h).imp (g1.fi p) (λk=>g2.fi p k.2)
 have fo:∀p q,(D1 p\/D2 p)->fol' p q->D1 q\/D2 q:=λp q hp hq=>by
  rcases(yR p q hp).1 hq with k|k
  ·exact hp.imp (g1.fo p q · k) (g2.fo p q · k)
  ·exact .inr (g2.fi q k.2)
 -- a run of the first,a run of the second,in the whole
 have r1:∀{u p},cN tk fol f1 u p->cN tk fol' f u p:=by
  intro u p h;have:∀{u p},cN tk fol f1 u p->cN tk fol' f u p/\D1 p:=by
   intro u p h
   induction h with
   |one c p a b=>exact⟨.one c p ((hf p).2 (.inl a)) b,g1.fi p a⟩
   |snoc u c p q _ a b ih=>exact⟨.snoc u c p q ih.1 (up p q (.inl ih.2) a) b,g1.fo p q ih.2 a⟩
  exact(this h).1
 have r2:∀{x y p q},cN tk fol' f x p->l1 p->cN tk fol f2 y q->cN tk fol' f (x++y) q:=by
  intro x y p q hx hp hy;have:∀{y q},cN tk fol f2 y q->cN tk fol' f (x++y) q/\D2 q:=by
   intro y q hy
   induction hy with
   |one c b a t=>exact⟨.snoc x c p b hx ((yR p b (.inl (g1.la p hp))).2 (.inr ⟨hp,a⟩)) t,g2.fi b a⟩
   |snoc u c a b _ g t ih=>rw[<-pA];exact⟨.snoc _ c a b ih.1 (up a b (.inr ih.2) g) t,g2.fo a b ih.2 g⟩
  exact(this hy).1
 have r2':∀{y q},e1->cN tk fol f2 y q->cN tk fol' f y q:=by
  intro y q he hy;have:∀{y q},cN tk fol f2 y q->cN tk fol' f y q/\D2 q:=by
   intro y q hy
   induction hy with
   |one c b a t=>exact⟨.one c b ((hf b).2 (.inr ⟨he,a⟩)) t,g2.fi b a⟩
   |snoc u c a b _ g t ih=>exact⟨.snoc _ c a b ih.1 (up a b (.inr ih.2) g) t,g2.fo a b ih.2 g⟩
  exact(this hy).1
 have key:∀{u p},cN tk fol' f u p->(D1 p/\cN tk fol f1 u p)\/(D2 p/\∃x y,u=x++y/\Acc tk fol e1 f1 l1 x/\cN tk fol f2 y p):=by
  intro u p h
  induction h with
  |one c p a b=>
   rcases(hf p).1 a with a|a
   ·exact .inl ⟨g1.fi p a,.one c p a b⟩
   ·exact .inr ⟨g2.fi p a.2,[],[c],rfl,.inl ⟨rfl,a.1⟩,.one c p a.2 b⟩
  |snoc u c p q hr a b ih=>
   rcases ih with ⟨dp,k⟩|⟨dp,x,y,e,hx,hy⟩
   ·rcases(yR p q (.inl dp)).1 a with a|a
    ·exact .inl ⟨g1.fo p q dp a,.snoc u c p q k a b⟩
    ·exact .inr ⟨g2.fi q a.2,u,[c],rfl,.inr ⟨p,k,a.1⟩,.one c q a.2 b⟩
   ·rcases(yR p q (.inr dp)).1 a with a|a
    ·exact .inr ⟨g2.fo p q dp a,x,y++[c],by rw[e,pA],hx,.snoc y c p q hy a b⟩
    ·exact absurd dp (hd p (g1.la p a.1))
 refine⟨fi,λp h=>((hl p).1 h).elim (λk=>.inr (g2.la p k)) (λk=>.inl (g1.la p k.2)),fo,λu=>?_⟩;constructor
 ·rintro (⟨rfl,h⟩|⟨p,hr,hp⟩)
  ·exact⟨[],[],rfl,(g1.mm []).1 (.inl ⟨rfl,h.1⟩),(g2.mm []).1 (.inl ⟨rfl,h.2⟩)⟩
  ·rcases key hr with ⟨dp,k⟩|⟨dp,x,y,e,hx,hy⟩
   ·rcases(hl p).1 hp with hp|hp
    ·exact absurd (g2.la p hp) (hd p dp)
    ·exact⟨u,[],by simp,(g1.mm u).1 (.inr ⟨p,k,hp.2⟩),(g2.mm []).1 (.inl ⟨rfl,hp.1⟩)⟩
   ·rcases(hl p).1 hp with hp|hp
    ·exact⟨x,y,e,(g1.mm x).1 hx,(g2.mm y).1 (.inr ⟨p,hy,hp⟩)⟩
    ·exact absurd dp (hd p (g1.la p hp.2))
 ·rintro ⟨x,y,rfl,hx,hy⟩;rcases(g1.mm x).2 hx with ⟨rfl,he1⟩|⟨p,hr,hp⟩
  ·rcases(g2.mm y).2 hy with ⟨rfl,SD⟩|⟨q,hq,nY⟩
   ·exact .inl ⟨rfl,he1,SD⟩
   ·exact .inr ⟨q,r2' he1 hq,(hl q).2 (.inl nY)⟩
  ·rcases(g2.mm y).2 hy with ⟨rfl,SD⟩|⟨q,hq,nY⟩
   ·exact .inr ⟨p,by rw[tW];exact r1 hr,(hl p).2 (.inr ⟨SD,hp⟩)⟩
   ·exact .inr ⟨q,r2 (r1 hr) hp hq,(hl q).2 (.inl nY)⟩
theorem zoZ{tk:Nat->UInt8->Prop}{L:aJ->Prop}
  (g:Good tk fol D e f l L) (yR:∀p q,D p->(fol' p q↔fol p q\/(l p/\f q))):Good tk fol' D True f l (λu=>∃k,Pow L k u):=by
 have up:∀p q,D p->fol p q->fol' p q:=λp q h k=>(yR p q h).2 (.inl k)
 have fo:∀p q,D p->fol' p q->D q:=λp q hp hq=>by
  rcases(yR p q hp).1 hq with k|k
  ·exact g.fo p q hp k
  ·exact g.fi q k.2
 have r2:∀{x y p q},cN tk fol' f x p->l p->cN tk fol f y q->cN tk fol' f (x++y) q:=by
  intro x y p q hx hp hy;have:∀{y q},cN tk fol f y q->cN tk fol' f (x++y) q/\D q:=by
   intro y q hy
   induction hy with
   |one c b a t=>exact⟨.snoc x c p b hx ((yR p b (g.la p hp)).2 (.inr ⟨hp,a⟩)) t,g.fi b a⟩
   |snoc u c a b _ k t ih=>rw[<-pA];exact⟨.snoc _ c a b ih.1 (up a b ih.2 k) t,g.fo a b ih.2 k⟩
  exact(this hy).1
 have r1:∀{y q},cN tk fol f y q->cN tk fol' f y q:=by
  intro y q hy;have:∀{y q},cN tk fol f y q->cN tk fol' f y q/\D q:=by
   intro y q hy
   induction hy with
   |one c b a t=>exact⟨.one c b a t,g.fi b a⟩
   |snoc u c a b _ k t ih=>exact⟨.snoc _ c a b ih.1 (up a b ih.2 k) t,g.fo a b ih.2 k⟩
  exact(this hy).1
 have back:∀k {x y q},Pow L k x->cN tk fol f y q->cN tk fol' f (x++y) q:=by
  intro k
  induction k with
  |zero=>intro x y q hx hy;cases hx;exact r1 hy
  |succ k ih=>
   intro x y q hx hy;obtain⟨x',z,rfl,tz,hz⟩:=hx.OT;rcases(g.mm z).2 hz with ⟨rfl,_⟩|⟨p,hr,hp⟩
   ·rw[tW];exact ih tz hy
   ·exact r2 (ih tz hr) hp hy
 have key:∀{u p},cN tk fol' f u p->D p/\∃k x y,u=x++y/\Pow L k x/\cN tk fol f y p:=by
  intro u p h
  induction h with
  |one c p a b=>exact⟨g.fi p a,0,[],[c],rfl,rfl,.one c p a b⟩
  |snoc u c p q hr a b ih=>
   obtain⟨dp,k,x,y,e,hx,hy⟩:=ih;rcases(yR p q dp).1 a with a|a
   ·exact⟨g.fo p q dp a,k,x,y++[c],by rw[e,pA],hx,.snoc y c p q hy a b⟩
   ·refine⟨g.fi q a.2,k+1,u,[c],rfl,?_,.one c q a.2 b⟩;rw[e];exact hx.snoc ((g.mm y).1 (.inr ⟨p,hy,a.1⟩))
 refine⟨g.fi,g.la,fo,λu=>?_⟩;constructor
 ·rintro (⟨rfl,-⟩|⟨p,hr,hp⟩)
  ·exact⟨0,rfl⟩
  ·obtain⟨_,k,x,y,rfl,hx,hy⟩:=key hr;exact⟨k+1,hx.snoc ((g.mm y).1 (.inr ⟨p,hy,hp⟩))⟩
 ·rintro ⟨k,hk⟩
  induction k generalizing u with
  |zero=>exact .inl ⟨hk,trivial⟩
  |succ k ih=>
   obtain⟨x,y,rfl,hx,hy⟩:=hk.OT;rcases(g.mm y).2 hy with ⟨rfl,_⟩|⟨p,hr,hp⟩
   ·rw[tW];exact ih x hx
   ·exact .inr ⟨p,back k hx hr,hp⟩
def Jq(L:aJ->Prop)(n:Nat)(u:aJ):Prop:=∃k,k<=n/\Pow L k u
theorem zkC(L:aJ->Prop)(u:aJ):(u=[]/\True)↔Jq L 0 u:=by
 constructor
 ·rintro ⟨rfl,-⟩;exact⟨0,ai _,rfl⟩
 ·rintro ⟨k,hk,h⟩;obtain rfl:k=0:=by omega
  exact⟨h,trivial⟩
theorem zql(L:aJ->Prop)(n:Nat)(u:aJ):(u=[]\/∃x y,u=x++y/\L x/\Jq L n y)↔Jq L (n+1) u:=by
 constructor
 ·rintro (rfl|⟨x,y,rfl,hx,k,hk,hy⟩)
  ·exact⟨0,aZ _,rfl⟩
  ·exact⟨k+1,by omega,x,y,rfl,hx,hy⟩
 ·rintro ⟨k,hk,h⟩
  match k,hk,h with
  |0,_,h=>exact .inl h
  |k+1,hk,⟨x,y,e,hx,hy⟩=>exact .inr ⟨x,y,e,hx,k,by omega,hy⟩
def IF(L M:aJ->Prop)(n:Nat)(u:aJ):Prop:=∃x y,u=x++y/\Pow L n x/\M y
theorem zmV(L M:aJ->Prop)(u:aJ):M u↔IF L M 0 u:=by
 constructor
 ·intro h;exact⟨[],u,rfl,rfl,h⟩
 ·rintro ⟨x,y,rfl,hx,hy⟩;cases hx;exact hy
theorem zmU(L M:aJ->Prop)(n:Nat)(u:aJ):(∃x y,u=x++y/\L x/\IF L M n y)↔IF L M (n+1) u:=by
 constructor
 ·rintro ⟨x,y,rfl,hx,a,b,rfl,ha,hb⟩;exact⟨x++a,b,by rw[pA],⟨x,a,rfl,hx,ha⟩,hb⟩
 ·rintro ⟨x,y,rfl,⟨a,b,rfl,ha,hb⟩,hy⟩;exact⟨a,b++y,by rw[pA],ha,b,y,rfl,hb,hy⟩
theorem Pow.add{L:aJ->Prop}:∀(m n:Nat) {x y:aJ},Pow L m x->Pow L n y->Pow L (m+n) (x++y)
 |0,n,x,y,hx,hy=>by cases hx;simpa using hy
 |m+1,n,x,y,⟨a,b,e,ha,hb⟩,hy=>by
  rw[show m+1+n=(m+n)+1 by omega,e];exact⟨a,b++y,by rw[pA],ha,Pow.add m n hb hy⟩
theorem Pow.split{L:aJ->Prop}:∀(m n:Nat) {u:aJ},Pow L (m+n) u->∃x y,u=x++y/\Pow L m x/\Pow L n y
 |0,n,u,h=>⟨[],u,rfl,rfl,by simpa using h⟩
 |m+1,n,u,h=>by
  rw[show m+1+n=(m+n)+1 by omega]at h;obtain⟨a,b,rfl,ha,hb⟩:=h;obtain⟨x,y,rfl,hx,hy⟩:=Pow.split m n hb;exact⟨a++x,y,by rw[pA],⟨a,x,rfl,ha,hx⟩,hy⟩
theorem zrN(b:Pt)(mn:Nat)(u:aJ):IF (In b) (λu=>∃k,Pow (In b) k u) mn u↔In (.aw b mn (-1)) u:=by
 constructor
 ·rintro ⟨x,y,rfl,hx,k,hy⟩;exact⟨mn+k,by omega,.inl rfl,hx.add _ _ hy⟩
 ·rintro ⟨k,h1,-,h⟩;obtain⟨x,y,rfl,hx,hy⟩:=Pow.split mn (k-mn) (by rw[show mn+(k-mn)=k by omega];exact h);exact⟨x,y,rfl,hx,_,hy⟩
theorem zrO(b:Pt)(mn d:Nat)(u:aJ):IF (In b) (Jq (In b) d) mn u↔In (.aw b mn ((mn+d:Nat):Int)) u:=by
 constructor
 ·rintro ⟨x,y,rfl,hx,k,hk,hy⟩;exact⟨mn+k,by omega,.inr (by omega),hx.add _ _ hy⟩
 ·rintro ⟨k,h1,h2,h⟩;obtain⟨x,y,rfl,hx,hy⟩:=Pow.split mn (k-mn) (by rw[show mn+(k-mn)=k by omega];exact h);exact⟨x,y,rfl,hx,k-mn,by omega,hy⟩
theorem zq1(b:Pt)(u:aJ):In (.aw b 1 1) u↔In b u:=by
 constructor
 ·rintro ⟨k,h1,h2,h⟩;obtain rfl:k=1:=by omega
  obtain⟨x,y,rfl,hx,hy⟩:=h;cases hy
  simpa using hx
 ·intro h;exact⟨1,by omega,.inr (by omega),u,[],by simp,h,rfl⟩
end
section
variable {ns:List aM}{k mn n:Nat}{u:aJ}{L M:aJ -> Prop}{F P:Nat -> Prop}{S:List Bool}
def jJ(rs:List (Int×Int))(c:Nat):Bool:=rs.any λr=>decide (r.1<=c/\(c:Int)<=r.2)
def kj:Pt:=.set λ_=>false
def fY(n:aM)(ops:List Pt):Pt:=
 if n.kind=1 then .set (jJ n.set)
 else if n.kind=2 then .seq (ops.getD 0 kj) (ops.getD 1 kj)
 else if n.kind=3 then .aQ (ops.getD 0 kj) (ops.getD 1 kj)
 else if n.kind=4 then .aw (ops.getD 0 kj) n.min n.max
 else .aT (ops.getD 0 kj) n.group
def PY(st:List Pt)(n:aM):List Pt:=st.take (st.length-bi n.kind)++[fY n (st.drop (st.length-bi n.kind))]
def gB(ns:List aM):Nat->List Pt
 |0=>[]
 |i+1=>PY (gB ns i) (ns.getD i .zero)
def aK(ns:List aM)(i:Nat):Pt:=fY (ns.getD i .zero) ((gB ns i).drop ((gB ns i).length-bi (bJ ns i)))
theorem Px(ns:List aM):∀i,(aN ns i).map (aK ns)=gB ns i
 |0=>rfl
 |i+1=>by
  have ih:=Px ns i;have hl:(aN ns i).length=(gB ns i).length:=by rw[<-ih,tU]
  rw[aN,gB,PY,Dl,List.map_take,ih,hl]
  rfl
theorem zrY(ns:List aM)(i:Nat):(gB ns i).length=(aN ns i).length:=by rw[<-Px,tU]
theorem Vk(ns:List aM)(k j:Nat)(hj:j<(aN ns k).length):(aN ns k).getD j 0<k:=Mm ns k _ (by
 rw[cL,eY hj];exact oz _)
theorem Ig(ha:bi (bJ ns k)=2)(hl:2<=(aN ns k).length):∃x y:Nat,lh ns k=x/\oh ns k=y/\x<k/\y<k/\aK ns k=fY (ns.getD k .zero) [aK ns x,aK ns y]:=by
 refine⟨(aN ns k).getD ((aN ns k).length-2) 0,(aN ns k).getD ((aN ns k).length-1) 0,?_,?_,Vk _ _ _ (by omega),Vk _ _ _ (by omega),?_⟩
 ·rw[lh,ha,aq (by omega)]
 ·rw[oh,aD ha]
 ·have hw:=zrY ns k;unfold aK;rw[ha]
  congr 1
  rw[<-Px ns k,tU];apply FC;intro i;rw[P1,Bv]
  match i with
  |0=>simp[List.getD_eq_getElem?_getD,List.getElem?_eq_getElem (show (aN ns k).length-2<(aN ns k).length by omega),aK]
  |1=>rw[show (aN ns k).length-2+1=(aN ns k).length-1 by omega];simp[List.getD_eq_getElem?_getD,List.getElem?_eq_getElem (show (aN ns k).length-1<(aN ns k).length by omega),aK]
  |i+2=>rw[qh (by omega)];simp
theorem If(ha:bi (bJ ns k)=1)(hl:1<=(aN ns k).length):∃x:Nat,lh ns k=x/\x<k/\aK ns k=fY (ns.getD k .zero) [aK ns x]:=by
 refine⟨(aN ns k).getD ((aN ns k).length-1) 0,?_,Vk _ _ _ (by omega),?_⟩
 ·rw[lh,ha,aq (by omega)]
 ·unfold aK;rw[ha]
  congr 1
  rw[<-Px ns k,tU];apply FC;intro i;rw[P1,Bv]
  match i with
  |0=>simp[List.getD_eq_getElem?_getD,List.getElem?_eq_getElem (show (aN ns k).length-1<(aN ns k).length by omega),aK]
  |i+1=>rw[qh (by omega)];simp
def fX(u:aJ)(L:aJ->Prop)(F:Nat->Prop)(j:Nat):Prop:=∃i,F i/\i<=j/\j<=u.length/\L ((u.drop i).take (j-i))
theorem zhR{G:Nat->Prop}(hl:∀w,L w↔M w)(hf:∀i,F i↔G i)(j:Nat):fX u L F j↔fX u M G j:=
 exists_congr λi=>and_congr (hf i) (and_congr_right λ_=>and_congr_right λ_=>hl _)
theorem U7(u:aJ){i m j:Nat}(h1:i<=m)(h2:m<=j):(u.drop i).take (j-i)=(u.drop i).take (m-i)++(u.drop m).take (j-m):=by
 have h3:u.drop m=(u.drop i).drop (m-i):=by rw[List.drop_drop];congr 1;omega
 rw[h3,show j-i=(m-i)+(j-m) by omega,List.take_add]
theorem Po(j:Nat):fX u (λw=>∃x y,w=x++y/\L x/\M y) F j↔fX u M (fX u L F) j:=by
 constructor
 ·rintro ⟨i,hi,dA,hj,x,y,e,hx,hy⟩;have hlen:((u.drop i).take (j-i)).length=j-i:=by simp;omega
  have gW:x.length+y.length=j-i:=by rw[<-hlen,e,pz]
  have e2:=U7 u (i:=i) (m:=i+x.length) (j:=j) (by omega) (by omega);rw[e]at e2;have uK:x=(u.drop i).take (i+x.length-i):=List.append_inj_left e2 (by simp;omega);have n9:y=(u.drop (i+x.length)).take (j-(i+x.length)):=List.append_inj_right e2 (by simp;omega);exact⟨i+x.length,⟨i,hi,by omega,by omega,by rw[<-uK];exact hx⟩,by omega,hj,by rw[<-n9];exact hy⟩
 ·rintro ⟨m,⟨i,hi,him,hm,hx⟩,hmj,hj,hy⟩;exact⟨i,hi,by omega,hj,_,_,U7 u him hmj,hx,hy⟩
theorem zqO(j:Nat):fX u (λw=>L w\/M w) F j↔fX u L F j\/fX u M F j:=by
 constructor
 ·rintro ⟨i,h1,h2,h3,h|h⟩
  ·exact .inl ⟨i,h1,h2,h3,h⟩
  ·exact .inr ⟨i,h1,h2,h3,h⟩
 ·rintro (⟨i,h1,h2,h3,h⟩|⟨i,h1,h2,h3,h⟩)
  ·exact⟨i,h1,h2,h3,.inl h⟩
  ·exact⟨i,h1,h2,h3,.inr h⟩
theorem zqP{f:Nat->Bool}(j:Nat):fX u (In (.set f)) F j↔∃i,∃h:i<u.length,j=i+1/\F i/\f (u[i]'h).toNat=true:=by
 constructor
 ·rintro ⟨i,h1,h2,h3,c,e,hc⟩;have hlen:((u.drop i).take (j-i)).length=j-i:=by simp;omega
  rw[e]at hlen;simp only[qg,oA]at hlen;have hi:i<u.length:=by omega
  refine⟨i,hi,by omega,h1,?_⟩;have:(u.drop i).take (j-i)=[u[i]]:=by rw[oC hi,show j-i=1 by omega];rfl
  rw[this]at e;cases e;exact hc
 ·rintro ⟨i,hi,rfl,h1,h⟩;refine⟨i,h1,by omega,by omega,u[i],?_,h⟩;rw[oC hi,show i+1-i=1 by omega]
  rfl
theorem ziz(hF:∀i,F i->i<=u.length)(j:Nat):fX u (Pow L 0) F j↔F j:=by
 constructor
 ·rintro ⟨i,h1,h2,h3,h⟩;have hlen:((u.drop i).take (j-i)).length=j-i:=by simp;omega
  have h':(u.drop i).take (j-i)=[]:=h;rw[h']at hlen;simp only[oA]at hlen;obtain rfl:i=j:=by omega
  exact h1
 ·intro h;exact⟨j,h,ai _,hF j h,by rw[zz];rfl⟩
theorem OU(k j:Nat):fX u (Pow L (k+1)) F j↔fX u L (fX u (Pow L k) F) j:=by
 rw[<-Po j];exact zhR (λw=>⟨λh=>h.OT,λ⟨x,y,e,hx,hy⟩=>by rw[e];exact hx.snoc hy⟩) (λ_=>Iff.rfl) j
theorem zoJ{M:Nat->aJ->Prop}(j:Nat):fX u (λw=>∃k,P k/\M k w) F j↔∃k,P k/\fX u (M k) F j:=by
 constructor
 ·rintro ⟨i,h1,h2,h3,k,hk,h⟩;exact⟨k,hk,i,h1,h2,h3,h⟩
 ·rintro ⟨k,hk,i,h1,h2,h3,h⟩;exact⟨i,h1,h2,h3,k,hk,h⟩
theorem zoK{K:Nat}(hK:mn<=K)(h:∀j,fX u (Pow L (K+1)) F j->∃i,mn<=i/\i<=K/\fX u (Pow L i) F j):
  ∀m,mn<=m->∀j,fX u (Pow L m) F j->∃i,mn<=i/\i<=K/\fX u (Pow L i) F j:=by
 intro m
 induction m with
 |zero=>intro hm j hj;exact⟨0,hm,by omega,hj⟩
 |succ m ih=>
  intro hm j hj
  by_cases hmK:m+1<=K
  ·exact⟨m+1,hm,hmK,hj⟩
  by_cases nX:mn<=m
  ·obtain⟨i,hi,dA,GM,hL⟩:=(OU m j).1 hj;obtain⟨i0,a,b,c⟩:=ih nX i hi;have:fX u (Pow L (i0+1)) F j:=(OU i0 j).2 ⟨i,c,dA,GM,hL⟩
   by_cases e:i0+1<=K
   ·exact⟨i0+1,by omega,e,this⟩
   ·obtain rfl:i0=K:=by omega
    exact h j this
  ·obtain rfl:m+1=mn:=by omega
   exact absurd hK hmK
def zzo(mn:Nat)(mx:Int)(k:Nat):Prop:=mn<=k/\(mx=-1\/(k:Int)<=mx)
theorem zl5{b:Pt}{mx:Int}(j:Nat):fX u (In (.aw b mn mx)) F j↔∃k,zzo mn mx k/\fX u (Pow (In b) k) F j:=by
 rw[<-zoJ j];exact zhR (λw=>⟨λ⟨k,a,c,d⟩=>⟨k,⟨by omega,c⟩,d⟩,λ⟨k,a,d⟩=>⟨k,by have:=a.1;omega,a.2,d⟩⟩) (λ_=>Iff.rfl) j
structure lM(n:Nat)(S:List Bool)(P:Nat->Prop):Prop where
 len:S.length=n+1
 iff:∀j,S.getD j false=true↔P j
theorem lM.le(h:lM n S P):∀j,P j->j<=n:=λj hj=>by
 have:=(h.iff j).2 hj
 by_cases e:j<S.length
 ·have:=h.len;omega
 ·rw[cL,qh (by omega)]at this;cases this
theorem lM.congr{Q:Nat->Prop}(h:lM n S P)(hq:∀j,P j↔Q j):lM n S Q:=⟨h.len,λj=>(h.iff j).trans (hq j)⟩
end
section
open Go.RowKit
theorem Tryz.Ub:(prog.info? 4).map (λi=>(i.zero,i.size,i.bytes))=zc (zc (.bool false),1,1):=by kernel_rfl
def ou(w:zg)(g:Nat)(S:List Bool):Prop:=g<w.heap.size/\∀i,i<S.length->w.cell? ⟨g,i,zb⟩=zc (.bool (S.getD i false))
theorem ou.below{w w':zg}{g:Nat}{S:List Bool}(h:ou w g S)(hb:zh w.heap.size w w'):ou w' g S:=
 ⟨bA h.1 hb.size,λi hi=>(hb.cell (p:=⟨g,i,zb⟩) h.1).trans (h.2 i hi)⟩
theorem zsK{xs:List zk}{k:Nat}{f:Nat->List zk}{a:zk}(h:nu xs 1 k f)(hl:k<xs.length)(hk:f k=[a]):nu (xs.set k a) 1 (k+1) f:=by
 intro j hj c hc;obtain rfl:c=0:=by omega
 rw[Nat.mul_one,wH,qS]
 by_cases e:j=k
 ·subst e;rw[hk];simp;omega
 ·rw[aq (by omega)];have:=h j (by omega) 0 (by omega)
  simpa using this
theorem zo2(rs:List (Int×Int))(c k:Nat)(hk:k<rs.length)(a b:Int)(h:rs.getD k (0,0)=(a,b)):jJ (rs.drop k) c=(cz c a b || jJ (rs.drop (k+1)) c):=by
 rw[oC hk];have:rs[k]=(a,b):=by rw[<-h];simp[List.getD,hk]
 unfold jJ;rw[List.any_cons,this]
 rfl
theorem ztt{lo:Nat}(v:zk)(rs:List (Int×Int))(c:Nat)(w:zg)(hs:dD lo w v rs)(hc8:c<256):
  zl prog 112 #[v,.int .u8 c] w λe w'=>e=.returned (.bool (jJ rs c))/\zh w.heap.size w w':=by
 obtain⟨ao,cap,rfl,hm,hc⟩:=hs;have xh:(0:Int)<=(c:Int):=by omega
 have qq:(c:Int)<256:=by omega
 go_enter func112,ntmps112
 go_wp2
 go_loopw [9] (λi wr=>∃k:Nat,k<=rs.length/\i=zf .i64 k/\zi (jJ rs c=jJ (rs.drop k) c)/\zh w.heap.size w wr)
  (λi _=>rs.length-(intOf i).toNat)
 case atStart=>exact⟨0,aZ _,rfl,rfl,Below.refl _ _⟩
 case round=>
  obtain⟨k,hk,rfl,HS,hb⟩:=hrel
  by_cases hlt:k<rs.length
  ·obtain⟨b,o,x,y,rfl,Hn,bu,c0,c1⟩:=hc.elem hb hlt;have bB:zh w.heap.size w (wr.alloc (zj #[zf .i64 x,zf .i64 y] 211)):=hb.alloc hb.size _;have HD:zi (jJ (rs.drop k) c=(cz c x y || jJ (rs.drop (k+1)) c)):=zo2 rs c k hlt x y Hn.out
   go_wp2_with fail
   refine(tO _ _ _ _).mono ?_;rintro e w2 ⟨rfl,rfl⟩;cases hq:cz c x y
   ·go_wp2
    go_roundw
    case rel=>exact⟨k+1,by omega,by go_num,by show _=_;rw[HS.out,HD.out,hq,Bool.false_or],bB⟩
    case measure=>simp[intOf];omega
   ·go_wp2;go_ret;exact⟨bF (by rw[HS.out,HD.out,hq,Bool.true_or]),bB⟩
  ·go_wp2;go_ret;exact⟨bF (by rw[HS.out,sA (by omega)];rfl),hb⟩
def uP(X Y:List Bool):List Bool:=(List.range X.length).map λi=>X.getD i false || Y.getD i false
theorem Iw(X Y:List Bool):(uP X Y).length=X.length:=by simp[uP]
theorem PG(X Y:List Bool){i:Nat}(h:i<X.length):(uP X Y).getD i false=(X.getD i false || Y.getD i false):=by simp[uP,List.getD_eq_getElem?_getD,h]
theorem zma{n:Nat}{X Y:List Bool}{P Q:Nat->Prop}(hx:lM n X P)(hy:lM n Y Q):lM n (uP X Y) (λj=>P j\/Q j):=by
 refine⟨by rw[Iw];exact hx.len,λj=>?_⟩
 by_cases hj:j<X.length
 ·rw[PG _ _ hj,sw,hx.iff,hy.iff]
 ·have e1:(uP X Y).getD j false=false:=by rw[cL,qh (by rw[Iw];omega)];rfl
  rw[e1];constructor
  ·intro h;cases h
  ·rintro (h|h)
   ·exact absurd (hx.le j h) (by have:=hx.len;omega)
   ·exact absurd (hy.le j h) (by have:=hx.len;omega)
theorem ztD(n:Nat)(X Y:List Bool)(g g2 cap fe:Nat)(w:zg)(hX:ou w g X)(hY:ou w g2 Y)(fF:X.length=n)(KV:Y.length=n)(hn:n<=1048576):
  zl prog 113 #[ze (zc ⟨g,0,zb⟩) n cap,ze (zc ⟨g2,0,zb⟩) n fe] w λe w'=>e=.returned (ze (zc ⟨w.heap.size,0,zb⟩) n n)/\ou w' w.heap.size (uP X Y)/\zh w.heap.size w w':=by
 have Hx:zi _:=fF;have Hy:zi _:=KV;clear fF KV;obtain⟨i0,hi,bK,bh,bz⟩:=info_parts Tryz.Ub
 go_enter func113,ntmps113
 go_wp2_with (refine wpList_make_full _ rfl _ _ 144 rfl w.heap.size 4 i0 _ 1 underlying144 hi bK bh _ _ _ _ n rfl rfl rfl rfl (by rw[bz];omega) (by unfold maxLen;omega) (ai _) ?_;intro w1 az eF)
 have ed:zh w.heap.size w w1:=(Below.refl _ _).grown eF (ai _) (by intro k h;cases h);clear eF
 go_loopw [12] (λi wr=>∃k:Nat,k<=n/\i=zf .i64 k/\zh w.heap.size w wr/\∃zs:List zk,wr.ownsRow w.heap.size 4 1 (ze (zc ⟨w.heap.size,0,zb⟩) n n) n zs/\
   nu zs 1 k (λj=>[.bool ((uP X Y).getD j false)]))
  (λi _=>n-(intOf i).toNat)
 case atStart=>exact⟨0,aZ _,rfl,ed,_,az,λj hj=>absurd hj (dk _)⟩
 case round=>
  obtain⟨k,hk,rfl,hb,zs,az,eQ⟩:=hrel
  by_cases hlt:k<n
  ·have c0:=(hb.cell (p:=⟨g,k,zb⟩) hX.1).trans (hX.2 k (by rw[Hx.out];exact hlt));have c1:=(hb.cell (p:=⟨g2,k,zb⟩) hY.1).trans (hY.2 k (by rw[Hy.out];exact hlt));have Ho:zi ((uP X Y).getD k false=(X.getD k false || Y.getD k false)):=PG X Y (by rw[Hx.out];exact hlt);generalize X.getD k false=a at *;generalize Y.getD k false=b at *;obtain⟨u0,d0⟩:=se az (j:=k) (by omega);have f0:=az.frozenAt k;have eC:=hX.1;have bU:=hY.1;have dO:(0:Int)<=(k:Int):=by omega
   have dh:(k:Int)<(n:Int):=by omega
   cases a
   all_goals
    go_wp2
    go_roundw
    case rel=>exact⟨k+1,by omega,by go_num,hb.setCell (by simp) _,_,(az.stored _ _).1,zsK eQ (by have:=az.1;omega) (by rw[Ho.out];rfl)⟩
    case measure=>simp[intOf];omega
  ·go_wp2;have bC:k=n:=by omega
   refine bD (v:=ze (zc ⟨w.heap.size,0,zb⟩) n n) (by simp[results,results113,go_sem]) rfl ⟨rfl,⟨qd az,λi hi=>?_⟩,hb⟩;rw[bC]at eQ;have e0:=lK az eQ (i:=i) (c:=0) (by rw[Iw,Hx.out]at hi;exact hi) (by omega)
   simpa using e0
def vh(X Y:List Bool)(k:Nat):Bool:=(List.range k).any λi=>Y.getD i false && !X.getD i false
theorem zmS(X Y:List Bool)(k:Nat):vh X Y (k+1)=(vh X Y k || (Y.getD k false && !X.getD k false)):=by simp[vh,List.range_succ]
theorem zss(n:Nat)(X Y:List Bool)(g g2 cap fe:Nat)(w:zg)(hX:ou w g X)(hY:ou w g2 Y)(fF:X.length=n)(KV:Y.length=n)(hn:n<=1048576):
  zl prog 136 #[ze (zc ⟨g,0,zb⟩) n cap,ze (zc ⟨g2,0,zb⟩) n fe] w λe w'=>e=.returned (.bool (vh X Y n))/\zh w.heap.size w w':=by
 have Hx:zi _:=fF;have Hy:zi _:=KV;clear fF KV
 go_enter func136,ntmps136
 go_wp2
 go_loopw [8] (λi wr=>∃k:Nat,k<=n/\i=zf .i64 k/\zh w.heap.size w wr/\zi (vh X Y k=false))
  (λi _=>n-(intOf i).toNat)
 case atStart=>exact⟨0,aZ _,rfl,Below.refl _ _,rfl⟩
 case round=>
  obtain⟨k,hk,rfl,hb,HF⟩:=hrel
  by_cases hlt:k<n
  ·have c0:=(hb.cell (p:=⟨g,k,zb⟩) hX.1).trans (hX.2 k (by rw[Hx.out];exact hlt));have c1:=(hb.cell (p:=⟨g2,k,zb⟩) hY.1).trans (hY.2 k (by rw[Hy.out];exact hlt));have Ho:zi (vh X Y (k+1)=(Y.getD k false && !X.getD k false)):=by show _=_;rw[zmS,HF.out,Bool.false_or]
   have Hm:zi (vh X Y (k+1)=true->vh X Y n=true):=by
    intro h;unfold vh at h ⊢;obtain⟨i,hi,h2⟩:=Dm.1 h;exact Dm.2 ⟨i,by simp at hi ⊢;omega,h2⟩
   generalize X.getD k false=a at *;generalize Y.getD k false=b at *;have dO:(0:Int)<=(k:Int):=by omega
   have dh:(k:Int)<(n:Int):=by omega
   cases b<;>cases a
   case true.false=>
    go_wp2;go_ret;exact⟨bF (Hm.out (by rw[Ho.out];rfl)).symm,hb⟩
   all_goals
    go_wp2
    go_roundw
    case rel=>exact⟨k+1,by omega,by go_num,hb,by show _=_;rw[Ho.out];rfl⟩
    case measure=>simp[intOf];omega
  ·have bC:k=n:=by omega
   subst bC;go_wp2;go_ret;exact⟨bF HF.out.symm,hb⟩
theorem zh1(N:Nat):(madeCells (Value.bool false).cells (N*1)).toList=List.replicate N (.bool false):=by
 apply List.ext_getElem
 ·simp[madeCells]
 ·intro i h1 h2;simp[madeCells,Value.cells,Nat.mod_one]
def qQ(n a:Nat):List Bool:=(List.replicate (n+1) false).set a true
theorem Vu(n a:Nat)(h:a<=n):lM n (qQ n a) (· = a):=by
 refine⟨by simp[qQ],λj=>?_⟩;unfold qQ;rw[cL,qS]
 by_cases e:a=j
 ·subst e;rw[aD rfl,aD (by simp;omega)];simp
 ·rw[aq e];have:(List.replicate (n+1) false)[j]?.getD false=false:=by
   rw[List.getElem?_replicate];split<;>rfl
  rw[this];constructor
  ·intro h;cases h
  ·intro h;exact absurd h.symm e
theorem WQ(n a:Nat)(w:zg)(ha:a<=n)(hn:n<=1048576):
  zl prog 91 #[zf .i64 n,zf .i64 a] w λe w'=>e=.returned (ze (zc ⟨w.heap.size,0,zb⟩) (n+1) (n+1))/\ou w' w.heap.size (qQ n a)/\zh w.heap.size w w':=by
 obtain⟨i0,hi,bK,bh,bz⟩:=info_parts Tryz.Ub
 go_enter func91,ntmps91
 go_wp2_with (refine wpList_make_full _ rfl _ _ 144 rfl w.heap.size 4 i0 _ 1 underlying144 hi bK bh _ _ _ _ (n+1) rfl rfl (by first|rfl|omega) (by first|rfl|omega) (by rw[bz];omega) (by unfold maxLen;omega) (ai _) ?_;intro w1 az eF;rw[zh1]at az;obtain⟨u0,d0⟩:=se az (j:=a) (by omega);have f0:=az.frozenAt a)
 have ed:zh w.heap.size w w1:=(Below.refl _ _).grown eF (ai _) (by intro k h;cases h);obtain⟨s1,s2⟩:=az.stored a (.bool true);refine bD (v:=ze (zc ⟨w.heap.size,0,zb⟩) (n+1) (n+1)) (by simp[results,results91,go_sem]) rfl ⟨rfl,⟨qd s1,λi hi=>?_⟩,ed.setCell (by simp) _⟩;rw[s1.cellAt i (by simp[qQ]at hi;omega)];rw[show (List.replicate (n+1) (Value.bool false)).set a (.bool true)=(qQ n a).map Value.bool by simp[qQ,List.map_set]];rw[Bv,cL,eY hi]
 rfl
end
section
variable {w w':zg}{g:Nat}{A B:List Bool}
open Go.RowKit
attribute [local go_sem ↓] wp_at_zero wp_at_succ
structure vq(w:zg)(ns:List aM)(vn:zk)(gl gr:Nat):Prop where
 nodes:dU 0 w vn ns
 za:gl<w.heap.size
 zd:gr<w.heap.size
 left:∀i,i<ns.length->w.cell? ⟨gl,i,zb⟩=zc (zf .i64 (lh ns i))
 right:∀i,i<ns.length->w.cell? ⟨gr,i,zb⟩=zc (zf .i64 (oh ns i))
theorem vq.below{ns:List aM}{vn:zk}{gl gr:Nat}(h:vq w ns vn gl gr)(hb:zh w.heap.size w w'):vq w' ns vn gl gr:=
 ⟨h.nodes.below hb,bA h.za hb.size,bA h.zd hb.size,λi hi=>(hb.cell (p:=⟨gl,i,zb⟩) h.za).trans (h.left i hi),λi hi=>(hb.cell (p:=⟨gr,i,zb⟩) h.zd).trans (h.right i hi)⟩
def Mp(w:zg)(t:ByteArray)(m:Nat)(P:Nat->Prop)(e:Ending)(w':zg):Prop:=
 ∃(g' cap':Nat) (S':List Bool),e=.returned (ze (zc ⟨g',0,zb⟩) m cap')/\ou w' g' S'/\S'.length=m/\lM t.size S' P/\zh w.heap.size w w'
def jB(ns:List aM)(n:Nat):Prop:=
 ∀(w:zg) (ao:Option Addr) (c gl cl gr cr:Nat) (t:ByteArray) (g cap m:Nat) (S:List Bool) (F:Nat->Prop),vq w ns (.slice ao ns.length c) gl gr->ou w g S->S.length=m->lM t.size S F->t.size<=4096->
  zl prog 90 #[.agg #[.slice ao ns.length c,ze (zc ⟨gl,0,zb⟩) ns.length cl,ze (zc ⟨gr,0,zb⟩) ns.length cr,.string t],zf .i64 n,ze (zc ⟨g,0,zb⟩) m cap] w λe w'=>Mp w t m (fX t.data.toList (In (aK ns n)) F) e w'
theorem gC{a b c d:zk}{t:TypeId}(h:w.heap[g]?=zc (zj #[a,b,c,d] t (0,0))):w.cell? ⟨g,0,zb⟩=zc a/\w.cell? ⟨g,1,zb⟩=zc b/\w.cell? ⟨g,2,zb⟩=zc c/\w.cell? ⟨g,3,zb⟩=zc d:=by
 have:∀o,w.cell? ⟨g,o,zb⟩=#[a,b,c,d][o]?:=λ_=>aO _ _ _ _ _ _ h
 exact⟨this 0,this 1,this 2,this 3⟩
def xX(A:List Bool):Nat:=A.countP id
theorem zr3(A:List Bool):xX A<=A.length:=List.countP_le_length
theorem zmM:∀(A B:List Bool),A.length=B.length->(∀i,A.getD i false=true->B.getD i false=true)->xX A<=xX B/\((∃i,B.getD i false=true/\A.getD i false=false)->xX A<xX B)
 |[],[],_,_=>⟨ai _,λ⟨i,h,_⟩=>by simp at h⟩
 |[],_::_,h,_=>by simp at h
 |_::_,[],h,_=>by simp at h
 |a::A,b::B,hl,h=>by
  have ih:=zmM A B (by simpa using hl) (λi hi=>by have:=h (i+1);simpa using this (by simpa using hi));have h0:a=true->b=true:=by have:=h 0;simpa using this
  have e:∀(x:Bool) (X:List Bool),xX (x::X)=xX X+(if x=true then 1 else 0):=by
   intro x X;simp[xX,List.countP_cons]
  rw[e,e];refine⟨?_,?_⟩
  ·cases a<;>cases b<;>simp at h0 ⊢<;>omega
  ·rintro ⟨i,hb,ha⟩;cases i with
   |zero=>
    have Cm:b=true:=by simpa using hb
    have ha':a=false:=by simpa using ha
    subst Cm ha';simp;omega
   |succ i=>
    have:=ih.2 ⟨i,by simpa using hb,by simpa using ha⟩;cases a<;>cases b<;>simp at h0 ⊢<;>omega
theorem zr4(hl:A.length=B.length)(h:vh A B A.length=true):xX A+1<=xX (uP A B):=by
 refine(zmM A (uP A B) (Iw A B).symm λi hi=>?_).2 ?_
 ·by_cases e:i<A.length
  ·rw[PG _ _ e,hi];rfl
  ·rw[cL,qh (by omega)]at hi;cases hi
 ·obtain⟨i,hi,h2⟩:=Dm.1 h;simp at hi h2;exact⟨i,by rw[PG _ _ hi];simp[h2.1],h2.2⟩
theorem zsr{n:Nat}{P Q:Nat->Prop}(hA:lM n A P)(hB:lM n B Q)(m:Nat)(hm:A.length=m)(h:vh A B m=false):∀j,Q j->P j:=by
 intro j hj;have hj':=hB.le j hj;have h1:=(hB.iff j).2 hj;rw[<-hA.iff];cases hq:A.getD j false
 ·exfalso
  have:vh A B m=true:=Dm.2 ⟨j,by simp;have:=hA.len;omega,by rw[h1,hq];rfl⟩;rw[h]at this;cases this
 ·rfl
theorem ia{o:Obj}(h:w.heap[g]?=zc o)(hb:zh w.heap.size w w'):w'.heap[g]?=zc o:=(hb.block g (ap.1 h).1).trans h
structure Xp(w wr:zg)(ob:Obj)(g n m:Nat)(C:List Bool)(P:Nat->Prop):Prop where
 below:zh w.heap.size w wr
 row:wr.heap[w.heap.size]?=zc ob
 at_:ou wr g C
 len:C.length=m
 set:lM n C P
def zwY(w:zg)(ob:Obj)(t:ByteArray)(m:Nat)(b:Pt)(F:Nat->Prop)(mn:Nat)(aA k:zk)(wr:zg):Prop:=
 ∃(gg cc kk:Nat) (C:List Bool),kk<=mn/\aA=ze (zc ⟨gg,0,zb⟩) m cc/\k=zf .i64 kk/\Xp w wr ob gg t.size m C (fX t.data.toList (Pow (In b) kk) F)
def zwZ(w:zg)(ob:Obj)(t:ByteArray)(m:Nat)(b:Pt)(F:Nat->Prop)(kk:Nat)(mx:Int)(aA all k:zk)(wr:zg):Prop:=
 ∃(gg cc ga ca k2:Nat) (C A:List Bool),kk<=k2/\(mx=-1\/(k2:Int)<=mx)/\aA=ze (zc ⟨gg,0,zb⟩) m cc/\all=ze (zc ⟨ga,0,zb⟩) m ca/\k=zf .i64 k2/\Xp w wr ob gg t.size m C (fX t.data.toList (Pow (In b) k2) F)/\ou wr ga A/\zi (A.length=m)/\lM t.size A (λj=>∃i,kk<=i/\i<=k2/\fX t.data.toList (Pow (In b) i) F j)/\zi (k2<=kk+xX A)
theorem zjx(ns:List aM)(x:Nat)(hE:jB ns x)(w:zg)(ao:Option Addr)(c gl cl gr cr:Nat)(t:ByteArray)(g cap m:Nat)(S:List Bool)(F:Nat->Prop)(mn:Nat)(mx:Int)
  (aB:vq w ns (.slice ao ns.length c) gl gr) (hS:ou w g S) (sZ:S.length=m) (hF:lM t.size S F) (ht:t.size<=4096) (mS:mn<=255) (hmx:mx=-1\/((mn:Int)<=mx/\mx<=255)):
  zl prog 114 #[.agg #[.slice ao ns.length c,ze (zc ⟨gl,0,zb⟩) ns.length cl,ze (zc ⟨gr,0,zb⟩) ns.length cr,.string t],zf .i64 x,zf .i64 mn,zf .i64 mx,ze (zc ⟨g,0,zb⟩) m cap] w λe w'=>Mp w t m (fX t.data.toList (In (.aw (aK ns x) mn mx)) F) e w':=by
 have RR:=λ(W:zg) (hb:zh w.heap.size w W) (g cap:Nat) (C:List Bool) (P:Nat->Prop) (h1:ou W g C) (h2:C.length=m) (h3:lM t.size C P)=>hE W ao c gl cl gr cr t g cap m C P (aB.below hb) h1 h2 h3 ht
 have Hm:zi (m=t.size+1):=by show _=_;rw[<-sZ];exact hF.len
 have AJ:m<=1048576:=by rw[Hm.out];omega
 clear hE aB;generalize aK ns x=b at RR ⊢;have ae:zh w.heap.size w (w.alloc (zj #[.slice ao ns.length c,ze (zc ⟨gl,0,zb⟩) ns.length cl,ze (zc ⟨gr,0,zb⟩) ns.length cr,.string t] 119)):=au
 go_enter func114,ntmps114
 go_wp2
 go_loopw [11,12] (λaA k wr=>zwY w (zj #[.slice ao ns.length c,ze (zc ⟨gl,0,zb⟩) ns.length cl,ze (zc ⟨gr,0,zb⟩) ns.length cr,.string t] 119 (0,0)) t m b F mn aA k wr)
  (λ_ k _=>mn-(intOf k).toNat)
 case atStart=>exact⟨g,cap,0,S,aZ _,rfl,rfl,ae,aL _ _,hS.below ae,sZ,hF.congr λj=>(ziz (λi hi=>by have:=hF.le i hi;simpa using this) j).symm⟩
 case round=>
  obtain⟨gg,cc,kk,C,bC,rfl,rfl,hC⟩:=hrel;obtain⟨a0,a1,a2,a3⟩:=gC hC.row
  by_cases hlt:kk<mn
  ·have dh:(kk:Int)<(mn:Int):=by omega
   go_wp2_with fail
   refine(RR _ hC.below gg cc C _ hC.at_ hC.len hC.set).mono ?_;rintro e w2 ⟨g2,c2,S2,rfl,af,gW,cZ,gz⟩;go_wp2
   go_roundw
   case rel=>exact⟨g2,c2,kk+1,S2,by omega,rfl,by go_num,aj hC.below hC.below.size gz,ia hC.row gz,af,gW,cZ.congr λj=>(OU kk j).symm⟩
   case measure=>simp[intOf];omega
  ·have GO:kk=mn:=by omega
   subst GO;have dh:¬(kk:Int)<(kk:Int):=by omega
   go_wp2;clear a0 a1 a2 a3
   go_loopw [11,13,14] (λaA all k wr=>zwZ w (zj #[.slice ao ns.length c,ze (zc ⟨gl,0,zb⟩) ns.length cl,ze (zc ⟨gr,0,zb⟩) ns.length cr,.string t] 119 (0,0)) t m b F kk mx aA all k wr)
    (λ_ _ k _=>kk+m+1-(intOf k).toNat)
   case atStart=>exact⟨gg,cc,gg,cc,kk,C,C,ai _,by omega,rfl,rfl,rfl,hC,hC.at_,hC.len,hC.set.congr λj=>⟨λh=>⟨kk,ai _,ai _,h⟩,λ⟨i,h1,h2,h⟩=>(show i=kk by omega) ▸ h⟩,Nat.le_add_right _ _⟩
   case round=>
    clear hC dh bC hlt;obtain⟨gg,cc,ga,ca,k2,C,A,iA,hkx,rfl,rfl,rfl,hC,hA,qV,Nv,HT⟩:=hrel;obtain⟨a0,a1,a2,a3⟩:=gC hC.row
    by_cases hgo:mx=-1\/(k2:Int)<mx
    ·have nW:k2<=kk+m:=by have:=zr3 A;rw[qV.out]at this;have:=HT.out;omega
     have zx8:(zi (mx=-1)/\(mx == -1)=true)\/((mx == -1)=false/\(k2:Int)<mx):=by
      by_cases e:mx=-1
      ·exact .inl ⟨e,by rw[e];rfl⟩
      ·exact .inr ⟨eu.2 e,by omega⟩
     have zAA:IntKind.i64.wrap ((k2:Int)+1)=(k2:Int)+1:=by rw[IntKind.wrap_i64];omega
     rcases zx8 with ⟨mj,uK⟩|⟨mj,uK⟩
     all_goals
      go_wp2_with fail
      refine(RR _ hC.below gg cc C _ hC.at_ hC.len hC.set).mono ?_;rintro e w2 ⟨g2,c2,S2,rfl,af,gW,cZ,gz⟩
      go_wp2_with fail
      refine(zss m A S2 ga g2 ca c2 _ (hA.below gz) af qV.out gW AJ).mono ?_;rintro e w3 ⟨rfl,G2⟩;have ZG:=(hA.below gz).below G2;have sU:=af.below G2;have hZ:=aj (aj hC.below hC.below.size gz) (aj hC.below hC.below.size gz).size G2;have TG:lM t.size S2 (fX t.data.toList (Pow (In b) (k2+1)) F):=cZ.congr λj=>(OU k2 j).symm
      have R4:=ia (ia hC.row gz) G2;cases hq:vh A S2 m
      ·go_wp2;have KI:=zoK (u:=t.data.toList) (L:=In b) (F:=F) (mn:=kk) (K:=k2) iA (zsr Nv TG m qV.out hq);refine bD (v:=ze (zc ⟨ga,0,zb⟩) m ca) (by simp[results,results114,go_sem]) rfl ⟨ga,ca,A,rfl,ZG,qV.out,Nv.congr λj=>?_,hZ⟩;rw[zl5];constructor
       ·rintro ⟨i,h1,h2,h⟩;exact⟨i,⟨h1,by omega⟩,h⟩
       ·rintro ⟨i,h1,h⟩;exact KI i h1.1 j h
      ·go_wp2_with fail
       refine(ztD m A S2 ga g2 ca c2 _ ZG sU qV.out gW AJ).mono ?_;rintro e w4 ⟨rfl,hO,AV⟩;go_wp2
       go_roundw
       case rel=>
        refine⟨g2,c2,w3.heap.size,m,k2+1,S2,uP A S2,by omega,by omega,rfl,rfl,by go_num,⟨aj hZ hZ.size AV,ia R4 AV,sU.below AV,gW,TG⟩,hO,by show _=_;rw[Iw];exact qV.out,(zma Nv TG).congr λj=>?_,?_⟩
        ·constructor
         ·rintro (⟨i,h1,h2,h⟩|h)
          ·exact⟨i,h1,by omega,h⟩
          ·exact⟨k2+1,by omega,ai _,h⟩
         ·rintro ⟨i,h1,h2,h⟩
          by_cases e:i<=k2
          ·exact .inl ⟨i,h1,e,h⟩
          ·obtain rfl:i=k2+1:=by omega
           exact .inr h
        ·have:=zr4 (A:=A) (B:=S2) (by rw[qV.out,gW]) (by rw[qV.out];exact hq);have:=HT.out;show _<=_;omega
       case measure=>simp[intOf];omega
    ·have mj:(mx == -1)=false:=eu.2 (by omega);have uK:¬(k2:Int)<mx:=by omega
     go_wp2;refine bD (v:=ze (zc ⟨ga,0,zb⟩) m ca) (by simp[results,results114,go_sem]) rfl ⟨ga,ca,A,rfl,hA,qV.out,Nv.congr λj=>?_,hC.below⟩;rw[zl5];constructor
     ·rintro ⟨i,h1,h2,h⟩;exact⟨i,⟨h1,by omega⟩,h⟩
     ·rintro ⟨i,h1,h⟩;exact⟨i,h1.1,by have:=h1.2;omega,h⟩
end
variable {m g k:Nat}{w wr:zg}{ob nb:Obj}{T:List Bool}
open Go.RowKit
attribute [local go_sem ↓] wp_at_zero wp_at_succ
def rX(m:Nat)(S:List Bool)(f:Nat->Bool)(u:aJ):Nat->List Bool
 |0=>List.replicate m false
 |k+1=>if (S.getD k false&&f (u.getD k 0).toNat)=true then (rX m S f u k).set (k+1) true else rX m S f u k
theorem LY(m:Nat)(S:List Bool)(f:Nat->Bool)(u:aJ):∀k,(rX m S f u k).length=m
 |0=>by simp[rX]
 |k+1=>by rw[rX];split<;>simp[LY m S f u k]
theorem zmD(m:Nat)(S:List Bool)(f:Nat->Bool)(u:aJ):∀k,k<m->∀j,(rX m S f u k).getD j false=true↔∃i,i<k/\j=i+1/\S.getD i false=true/\f (u.getD i 0).toNat=true
 |0,_,j=>by
  rw[rX,cL,List.getElem?_replicate];constructor
  ·intro h;split at h<;>cases h
  ·rintro ⟨i,h,_⟩;exact absurd h (dk _)
 |k+1,hk,j=>by
  have ih:=zmD m S f u k (by omega) j;rw[rX];split
  ·rename_i hc
   rw[dE]at hc;rw[cL,qS]
   by_cases e:k+1=j
   ·rw[aD e,aD (by rw[LY];omega)];exact⟨λ_=>⟨k,by omega,e.symm,hc⟩,λ_=>rfl⟩
   ·rw[aq e,<-cL,ih];constructor
    ·rintro ⟨i,h1,h2⟩;exact⟨i,by omega,h2⟩
    ·rintro ⟨i,h1,h2,h3⟩;exact⟨i,by omega,h2,h3⟩
  ·rename_i hc
   rw[ih];constructor
   ·rintro ⟨i,h1,h2⟩;exact⟨i,by omega,h2⟩
   ·rintro ⟨i,h1,h2,h3,h4⟩;refine⟨i,?_,h2,h3,h4⟩
    by_cases e:i=k
    ·subst e;exact absurd (by rw[h3,h4];rfl) hc
    ·omega
theorem zo6{S:List Bool}{f:Nat->Bool}{u:aJ}{F:Nat->Prop}(hm:m=u.length+1)(hF:lM u.length S F):lM u.length (rX m S f u u.length) (fX u (In (.set f)) F):=by
 refine⟨by rw[LY,hm],λj=>?_⟩;rw[zmD m S f u u.length (by omega),zqP];constructor
 ·rintro ⟨i,h1,h2,h3,h4⟩;exact⟨i,h1,h2,(hF.iff i).1 h3,by simpa [List.getD_eq_getElem?_getD,List.getElem?_eq_getElem h1]using h4⟩
 ·rintro ⟨i,h1,h2,h3,h4⟩;exact⟨i,h1,h2,(hF.iff i).2 h3,by simpa [List.getD_eq_getElem?_getD,List.getElem?_eq_getElem h1]using h4⟩
theorem uV{o:Obj}(h:w.heap[g]?=zc o):g<w.heap.size:=(ap.1 h).1
structure wW(w wr:zg)(ob nb:Obj)(m k:Nat)(T:List Bool):Prop where
 below:zh w.heap.size w wr
 box:wr.heap[w.heap.size]?=zc ob
 node:wr.heap[w.heap.size+1]?=zc nb
 row:wr.ownsRow w.heap.size 4 1 (ze (zc ⟨w.heap.size+1+1,0,zb⟩) m m) m (T.map Value.bool)
theorem wW.call{w2:zg}(h:wW w wr ob nb m k T)(hb:zh wr.heap.size wr w2):wW w w2 ob nb m (k+1) T:=
 ⟨aj h.below h.below.size hb,ia h.box hb,ia h.node hb,cI h.row hb⟩
theorem wW.drew(h:wW w wr ob nb m k T):wW w wr.drew ob nb m (k+1) T:=h.call (Below.refl _ _).drew
theorem wW.put{j:Nat}(h:wW w wr ob nb m k T):wW w (wr.setCell ⟨w.heap.size+1+1,j,zb⟩ (.bool true)) ob nb m k (T.set j true):=
 ⟨h.below.setCell (by simp;omega) _,(Below.heap_setCell _ _ _ _ (by simp;omega)).trans h.box,(Below.heap_setCell _ _ _ _ (by simp)).trans h.node,by rw[List.map_set];exact(h.row.stored j (.bool true)).1⟩
theorem EW{a b c d e:zk}{t:TypeId}(h:w.heap[g]?=zc (zj #[a,b,c,d,e] t (0,0))):w.cell? ⟨g,0,zb⟩=zc a/\w.cell? ⟨g,1,zb⟩=zc b/\w.cell? ⟨g,2,zb⟩=zc c/\w.cell? ⟨g,3,zb⟩=zc d/\w.cell? ⟨g,4,zb⟩=zc e:=by
 have:∀o,w.cell? ⟨g,o,zb⟩=#[a,b,c,d,e][o]?:=λ_=>aO _ _ _ _ _ _ h
 exact⟨this 0,this 1,this 2,this 3,this 4⟩
theorem zoH(ns:List aM)(n:Nat)(hn:n<ns.length)(hk:bJ ns n=1)(hT:aK ns n=.set (jJ (ns.getD n .zero).set)):jB ns n:=by
 intro w ao c gl cl gr cr t g cap m S F aB hS sZ hF ht;rw[hT];obtain⟨iG,fe,hv,AK,hc⟩:=aB.nodes;cases hv;obtain⟨b,o,sv,nd,rfl,Hn,bu,c0,c1,c2,c3,c4,di⟩:=hc.elem (Below.refl _ _) hn;have cM:nd.kind=1:=by rw[<-hk];unfold bJ;rw[Hn.out]
 rw[cM]at c0;rw[Hn.out];have KJ:=di;obtain⟨bH,bI,rfl,hsm,jQ⟩:=di;have Hm:zi (m=t.size+1):=by show _=_;rw[<-sZ];exact hF.len
 have AJ:m<=1048576:=by rw[Hm.out];omega
 have yU:t.size<m:=by rw[Hm.out];omega
 have zxV:=λ(W:zg) (hb:zh w.heap.size w W) (ch:Nat) (h8:ch<256)=>ztt _ nd.set ch W (KJ.below hb) h8
 clear hk hT cM hc jQ KJ;obtain⟨i0,hi,bK,bh,bz⟩:=info_parts Tryz.Ub;have dO:(0:Int)<=(n:Int):=by omega
 have dh:(n:Int)<(ns.length:Int):=by omega
 go_enter func90,ntmps90
 go_wp2_with (refine wpList_make_full _ rfl _ _ 144 rfl w.heap.size 4 i0 _ 1 underlying144 hi bK bh _ _ _ _ m rfl rfl rfl rfl (by rw[bz];omega) (by unfold maxLen;omega) (by simp;omega) ?_;intro w1 az eF;rw[zh1]at az)
 have yJ:wW w w1 (zj #[ze (zc ⟨b,o,zb⟩) ns.length c,ze (zc ⟨gl,0,zb⟩) ns.length cl,ze (zc ⟨gr,0,zb⟩) ns.length cr,.string t] 119 (0,0)) (zj #[zf .i64 1,.slice bH nd.set.length bI,zf .i64 nd.min,zf .i64 nd.max,zf .i64 nd.group] 149 (0,0)) m 0 (rX m S (jJ nd.set) t.data.toList 0):=by
  have bB:=((Below.refl w.heap.size w).alloc (ai _) (zj #[ze (zc ⟨b,o,zb⟩) ns.length c,ze (zc ⟨gl,0,zb⟩) ns.length cl,ze (zc ⟨gr,0,zb⟩) ns.length cr,.string t] 119)).alloc (by simp) (zj #[zf .i64 1,.slice bH nd.set.length bI,zf .i64 nd.min,zf .i64 nd.max,zf .i64 nd.group] 149);refine⟨bB.grown eF (by simp;omega) (by intro k h;cases h),?_,?_,?_⟩
  ·exact(eF.block _ (by simp;omega) (by simp)).trans (cQ (aL _ _))
  ·refine(eF.block _ (by simp) (by simp)).trans ?_;have:=aL (w.alloc (zj #[ze (zc ⟨b,o,zb⟩) ns.length c,ze (zc ⟨gl,0,zb⟩) ns.length cl,ze (zc ⟨gr,0,zb⟩) ns.length cr,.string t] 119)) (zj #[zf .i64 1,.slice bH nd.set.length bI,zf .i64 nd.min,zf .i64 nd.max,zf .i64 nd.group] 149)
   simpa using this
  ·simpa [rX]using az
 clear az eF c0 c1 c2 c3 c4
 go_loopw [9] (λi wr=>∃k:Nat,k<=t.size/\i=zf .i64 k/\wW w wr (zj #[ze (zc ⟨b,o,zb⟩) ns.length c,ze (zc ⟨gl,0,zb⟩) ns.length cl,ze (zc ⟨gr,0,zb⟩) ns.length cr,.string t] 119 (0,0)) (zj #[zf .i64 1,.slice bH nd.set.length bI,zf .i64 nd.min,zf .i64 nd.max,zf .i64 nd.group] 149 (0,0)) m k (rX m S (jJ nd.set) t.data.toList k)) (λi _=>t.size-(intOf i).toNat)
 case atStart=>exact⟨0,aZ _,rfl,yJ⟩
 case round=>
  clear yJ;obtain⟨k,hk,rfl,hI⟩:=hrel;obtain⟨a0,a1,a2,a3⟩:=gC hI.box
  by_cases hlt:k<t.size
  ·have Hs:zi (rX m S (jJ nd.set) t.data.toList (k+1)=if (S.getD k false&&jJ nd.set (t.data.toList.getD k 0).toNat)=true then (rX m S (jJ nd.set) t.data.toList k).set (k+1) true else rX m S (jJ nd.set) t.data.toList k):=rfl;have g0:=(hI.below.cell (p:=⟨g,k,zb⟩) hS.1).trans (hS.2 k (by rw[sZ];omega));obtain⟨n0,n1,n2,n3,n4⟩:=EW hI.node;have hj0:(0:Int)<=(k:Int):=by omega
   have Eh:(k:Int)<(m:Int):=by omega
   have Cx:(k:Int)<(t.size:Int):=by omega
   generalize S.getD k false=a at *;have Kl:g<wr.heap.size:=bA hS.1 hI.below.size;have uD:=uV hI.box;have Tb:=uV hI.node;have hch:=λ(W:zg) (hb:zh w.heap.size w W)=>zxV W hb (t[k]'hlt).toNat (UInt8.toNat_lt _)
   have HC:zi ((t.data.toList.getD k 0).toNat=(t[k]'hlt).toNat):=by
    show _=_;rw[cL,eY (show k<t.data.toList.length by simpa using hlt)]
    rfl
   cases a
   ·go_wp2
    go_region
    go_wp2
    go_roundw
    case rel=>exact⟨k+1,by omega,by go_num,by rw[Hs.out,Bool.false_and,aq (by decide)];exact hI.drew⟩
    case measure=>simp[intOf];omega
   ·go_wp2
    go_region_held3 (λw'=>w'.cell? ⟨g,k,zb⟩=zc (.bool true)/\w'.cell? ⟨w.heap.size,3,zb⟩=zc (.string t)/\w'.cell? ⟨w.heap.size+1,1,zb⟩=zc (.slice bH nd.set.length bI)) ((first|go_keep|exact⟨(af.cell (by exact Kl)).trans g0,(af.cell (by exact uD)).trans a3,(af.cell (by exact Tb)).trans n1⟩)) ((go_at_call 112;refine(hch _ hI.drew.below).mono ?_;rintro e w2 ⟨rfl,af⟩))
    have dZ:zh wr.heap.size wr w2:=aj (Below.refl _ _).drew (ai _) af;have NA:=hI.call dZ;rw[<-HC.out];cases hq:jJ nd.set (t.data.toList.getD k 0).toNat
    ·go_wp2
     go_roundw
     case rel=>exact⟨k+1,by omega,by go_num,by rw[Hs.out,hq,Bool.and_false,aq (by decide)];exact NA⟩
     case measure=>simp[intOf];omega
    ·obtain⟨u0,d0⟩:=se NA.row (j:=k+1) (by omega);have f0:=NA.row.frozenAt (k+1);have hj3:(k:Int)+1<(m:Int):=by omega
     go_wp2
     go_roundw
     case rel=>exact⟨k+1,by omega,by go_num,by rw[Hs.out,hq,Bool.and_true,aD rfl];exact NA.put⟩
     case measure=>simp[intOf];omega
  ·have bC:k=t.size:=by omega
   go_wp2;have hu:t.data.toList.length=t.size:=by simp
   have hs:=zo6 (m:=m) (S:=S) (f:=jJ nd.set) (u:=t.data.toList) (F:=F) (by rw[hu];exact Hm.out) (by rw[hu];exact hF);rw[hu,<-bC]at hs;refine bD (v:=ze (zc ⟨w.heap.size+1+1,0,zb⟩) m m) (by simp[results,results90,go_sem]) rfl ⟨_,_,_,rfl,⟨qd hI.row,λi hi=>?_⟩,LY _ _ _ _ _,by rw[<-bC];exact hs,hI.below⟩;rw[hI.row.cellAt i (by rw[LY]at hi;omega),Bv,cL,eY hi]
   rfl
end Go.Proofs.YtdimhpfiieepiaaGreatDoor
