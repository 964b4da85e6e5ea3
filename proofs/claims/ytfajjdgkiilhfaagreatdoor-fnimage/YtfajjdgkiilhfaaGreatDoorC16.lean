import Derived.Test.YtfajjdgkiilhfaaGreatDoorC15
import Derived.BigQuiet
import Derived.Deep.RegionHeld3
namespace Go.Proofs.YtfajjdgkiilhfaaGreatDoor
open Proofs.Tryz
open Option renaming some->za,none->zb
open Value renaming slice->zc,int->ze,agg->zj
open Go renaming Value->zf,World->zh,Calls->zk,TypeId->zl
open RowKit renaming Below->zg
open Obj renaming cells->zi
set_option maxHeartbeats 4000000
set_option maxRecDepth 100000
open Go.RowKit
attribute [local go_sem ↓] wp_at_zero wp_at_succ
section
variable {w0 w W W':zh}{nv bv:zf}{Ns:List bB}{gm go N l:Nat}{m O s:Nat -> Bool}
structure mJ(w0 w W:zh)(nv bv:zf)(Ns:List bB)(gm go N:Nat)(m O s:Nat->Bool)(l:Nat):Prop where
 bx:uk go w W nv bv (.int .u8 42) (ze .i64 l) (ze .i64 0) (zc zb 0 0)
 sh:∃O1,BP w0 W nv Ns gm go N m O1/\∀x,(O1 x || s x)=(O x || s x)
theorem mJ.call(h:mJ w0 w W nv bv Ns gm go N m O s l)(hb:zg W.heap.size W W'):mJ w0 w W' nv bv Ns gm go N m O s l:=by
 obtain⟨h1,O1,h2,h3⟩:=h;exact⟨h1.call hb,O1,h2.call hb,h3⟩
theorem mJ.lS(h:mJ w0 w W nv bv Ns gm go N m O s l)(hg:go<w.heap.size)(t:lA (· = go) W W')(o:gZ W' go N (λx=>O x || s x)):mJ w0 w W' nv bv Ns gm go N m O s l:=by
 obtain⟨h1,O1,h2,h3⟩:=h;exact⟨h1.lS hg t,_,h2.lS t o,λx=>by rw[Bool.or_assoc,Bool.or_self]⟩
theorem mJ.full(h:mJ w0 w W nv bv Ns gm go N m O s l):mJ w0 w W nv bv Ns gm go N m O s l/\W.cell? ⟨w.heap.size,0,zb⟩=za nv/\W.cell? ⟨w.heap.size,1,zb⟩=za bv/\W.cell? ⟨w.heap.size+1,1,zb⟩=za (ze .i64 l):=
 ⟨h,(dV h.bx.x0).1,(dV h.bx.x0).2,(eG h.bx.x1).2.1⟩
theorem ztk(w0:zh)(a:GT)(ha:yT w0 a):yT w0 (.st a):=by
 intro Ns n w nv bv gm cm go co N c m O g hS hA hc;obtain⟨l,hx,hl⟩:=hA;obtain⟨g1,cap,rfl,hn,hg,c0,c1,c2,c3⟩:=hS.nx.node hx;have jo:=hS.nx.len;have hgo:go<w.heap.size:=ay hS.ou;have eC:(0:Int)<=(n:Int):=by omega
 have dg:(n:Int)<(Ns.length:Int):=by omega
 obtain⟨W0,aw⟩:∃W0,(w.alloc (zi #[zc (za ⟨g1,0,zb⟩) Ns.length cap,bv] 89)).alloc (zi #[.int .u8 42,ze .i64 l,ze .i64 0,zc zb 0 0] 124)=W0:=⟨_,rfl⟩;have bS:=uk.start (go:=go) aw;have bi:=hS.call (Bx.start aw).bl;obtain⟨p0,p1⟩:=dV bS.x0;obtain⟨q0,q1,q2,q3⟩:=eG bS.x1;have bD:=ag aw;have gX:=ag bS;have eJ:=ag bi;have HC:=ag hc;clear hx hS bi aw bS hc
 go_enter func72,ntmps72
 go_upto_region 2 with fail
 rw[bD.out];clear bD c0 c1 c2 c3;have ME:=gX.out.call (Below.refl _ _).drew;have hSd:=eJ.out.call (Below.refl _ _).drew;cases g
 ·obtain⟨v,hv⟩:∃v,ig m a=v:=⟨_,rfl⟩;obtain⟨s,hs⟩:∃s,dF m c a v=s:=⟨_,rfl⟩;have zd:mJ w0 w W0.drew (zc (za ⟨g1,0,zb⟩) Ns.length cap) bv Ns gm go N m O s l:=⟨ME,O,hSd,λ_=>rfl⟩;have cf:∀W,mJ w0 w W (zc (za ⟨g1,0,zb⟩) Ns.length cap) bv Ns gm go N m O s l->zk prog 70 #[zj #[zc (za ⟨g1,0,zb⟩) Ns.length cap,bv],ze .i64 l,zc (za ⟨gm,0,zb⟩) N cm] W λe W2=>e=.returned (.bool v)/\zg W.heap.size W W2:=λW h=>by
   obtain⟨O1,h1,-⟩:=h.sh;rw[<-hv];exact CQ w0 a Ns l W _ bv gm cm N m h1.nx hl h1.ma h1.le
  have ca:∀W,mJ w0 w W (zc (za ⟨g1,0,zb⟩) Ns.length cap) bv Ns gm go N m O s l->zk prog 72 #[zj #[zc (za ⟨g1,0,zb⟩) Ns.length cap,bv],ze .i64 l,.bool v,zc (za ⟨gm,0,zb⟩) N cm,.int .u8 c,zc (za ⟨go,0,zb⟩) N co] W λe W2=>e=.returned (.tuple #[])/\gZ W2 go N (λx=>O x || s x)/\lA (· = go) W W2:=λW h=>by
   obtain⟨O1,h1,h2⟩:=h.sh;refine(ha Ns l W _ bv gm cm go co N c m O1 v h1 hl HC.out).mono λe W2 ⟨k1,k2,k3⟩=>⟨k1,?_,k3⟩
   rw[hs,show (λx=>O1 x || s x)=λx=>O x || s x from funext h2]at k2;exact k2
  have hz:∀x,dF m c (.st a) false x=s x:=λx=>by show dF m c a (false || ig m a) x=s x;rw[hv,Bool.false_or,hs]
  have HZ:=ag hz;have eR:=ag zd;clear hl hv hs ME hSd hz zd gX eJ;have e0:=p0;have e1:=p1;have e2:=q1
  go_upto_region 14 with fail
  go_region_held3 (λw'=>mJ w0 w w' (zc (za ⟨g1,0,zb⟩) Ns.length cap) bv Ns gm go N m O s l/\w'.cell? ⟨w.heap.size,0,zb⟩=za (zc (za ⟨g1,0,zb⟩) Ns.length cap)/\w'.cell? ⟨w.heap.size,1,zb⟩=za bv/\w'.cell? ⟨w.heap.size+1,1,zb⟩=za (ze .i64 l))
   ((first|exact mJ.full eR.out|exact mJ.full (mJ.call (‹mJ w0 w _ _ _ _ _ _ _ _ _ _ _/\_›).1 b1)|exact mJ.full (mJ.lS (‹mJ w0 w _ _ _ _ _ _ _ _ _ _ _/\_›).1 hgo t9 o9)|go_keep))
   ((first|(go_at_call 70;refine(cf _ (by first|exact eR.out|exact(‹mJ w0 w _ _ _ _ _ _ _ _ _ _ _/\_›).1)).mono ?_;rintro e W1 ⟨rfl,b1⟩)|(go_at_call 72;refine(ca _ (by first|exact eR.out|exact(‹mJ w0 w _ _ _ _ _ _ _ _ _ _ _/\_›).1)).mono ?_;rintro e W9 ⟨rfl,o9,t9⟩)))
  all_goals
   have pQ:=‹mJ w0 w _ _ _ _ _ _ _ _ _ _ _/\_›;go_wp2;refine aW (v:=.tuple #[]) (by simp[results,results72,go_sem]) rfl ?_;refine⟨rfl,?_,pQ.1.bx.t⟩;rw[show (λx=>O x || dF m c (.st a) false x)=λx=>O x || s x from funext λx=>by rw[HZ.out x]];exact o9
 ·have ca:∀W,zg W0.heap.size W0 W->zk prog 72 #[zj #[zc (za ⟨g1,0,zb⟩) Ns.length cap,bv],ze .i64 l,.bool true,zc (za ⟨gm,0,zb⟩) N cm,.int .u8 c,zc (za ⟨go,0,zb⟩) N co] W λe W2=>e=.returned (.tuple #[])/\gZ W2 go N (λx=>O x || dF m c a true x)/\lA (· = go) w W2:=λW hb=>
   (ha Ns l W _ bv gm cm go co N c m O true (eJ.out.call hb) hl HC.out).mono λe W2 ⟨h1,h2,h3⟩=>⟨h1,h2,((gX.out.call hb).lS hgo h3).t⟩
  have fF:prog.follows .mixedOrders=true:=by kernel_rfl
  clear hl
  go_upto_region 14 with fail
  refine zis 14 fF (by kernel_rfl) rfl rfl rfl ?_;intro os bN;simp only[mz,vk]at bN;subst bN
  repeat (go_big_quiet_step (fail))
  refine wpQuiet_nil ?_;intro w' hw' K hK;obtain⟨nq,rfl⟩:=hw';have cq:=(ca (W0.drewN nq) ⟨rfl,rfl,rfl,aq _,λ_ _=>rfl⟩).mono (R':=λe W2=>∃v,e=.returned v/\v=.tuple #[]/\gZ W2 go N (λx=>O x || dF m c a true x)/\lA (· = go) w W2) λe W2 ⟨h1,h2⟩=>⟨_,h1,rfl,h2⟩
  refine zj7 72 #[.tmp 85,.tmp 87,.tmp 95,.tmp 96,.tmp 97,.tmp 98] #[89,3,4,93,5,93] (by rfl) #[zj #[zc (za ⟨g1,0,zb⟩) Ns.length cap,bv],ze .i64 l,.bool true,zc (za ⟨gm,0,zb⟩) N cm,.int .u8 c,zc (za ⟨go,0,zb⟩) N co] (by simp[Act.eval]) _ (zoM _ _) cq ?_;rintro v W9 ⟨rfl,o9,t9⟩;refine hK _ _ ?_;go_wp2;refine aW (v:=.tuple #[]) (by simp[results,results72,go_sem]) rfl ?_;refine⟨rfl,?_,t9⟩;rw[show (λx=>O x || dF m c (.st a) true x)=λx=>O x || dF m c a true x from rfl];exact o9
theorem KZ(w0:zh):∀T:GT,yT w0 T
 |.s p f=>zuP w0 p f
 |.q a b=>zuO w0 a b (KZ w0 a) (KZ w0 b)
 |.o a b=>zuN w0 a b (KZ w0 a) (KZ w0 b)
 |.st a=>ztk w0 a (KZ w0 a)
 |.e=>zuM w0
end
section
variable {fst:Bool}{c n:Nat}
structure dn where
 rule:Nat
 bol:Bool
 eol:Bool
 ga:GA
abbrev St:=Nat->Nat->Bool
def fT:St:=λ_ _=>false
def lh(bs:List dn)(fst:Bool)(S:St)(c:Nat):St:=λk j=>match bs[k]? with
 |none=>false
 |some b=>b.ga.st j c&&(((fst || !b.bol)&&b.ga.fst j) || (List.range b.ga.n).any λi=>S k i&&b.ga.ii i j)
def zv(b:dn)(k:Nat)(fst:Bool)(S:St):Bool:=((List.range b.ga.n).any λi=>S k i&&b.ga.kF i) || ((fst || !b.bol)&&b.ga.fC)
def ia(bs:List dn)(fst:Bool)(S:St)(we:Bool):Nat->Int
 |0=>-1
 |k+1=>match bs[k]? with
  |none=>ia bs fst S we k
  |some b=>if (b.eol && !we)=true then ia bs fst S we k else if zv b k fst S=true/\(ia bs fst S we k<0\/(b.rule:Int)<ia bs fst S we k) then b.rule else ia bs fst S we k
def yV(bs:List dn)(fst:Bool)(S:St)(we:Bool):Int:=ia bs fst S we bs.length
def zxB(bs:List dn)(fst:Bool)(S:St)(we:Bool)(K:Nat)(a:Int):Prop:=
 (a=-1\/∃k b,k<K/\bs[k]?=za b/\a=b.rule/\(b.eol && !we)=false/\zv b k fst S=true)/\
 ∀k b,k<K->bs[k]?=za b->(b.eol && !we)=false->zv b k fst S=true->0<=a/\a<=b.rule
theorem ztw(bs:List dn)(fst:Bool)(S:St)(we:Bool):∀K,zxB bs fst S we K (ia bs fst S we K)
 |0=>⟨.inl rfl,λk b h=>absurd h (by omega)⟩
 |K+1=>by
  obtain⟨h1,h2⟩:=ztw bs fst S we K;have hs:ia bs fst S we (K+1)=match bs[K]? with
   |none=>ia bs fst S we K
   |some b=>if (b.eol && !we)=true then ia bs fst S we K else if zv b K fst S=true/\(ia bs fst S we K<0\/(b.rule:Int)<ia bs fst S we K) then b.rule else ia bs fst S we K:=rfl
  have up:(ia bs fst S we K=-1\/∃k b,k<K/\bs[k]?=za b/\ia bs fst S we K=b.rule/\(b.eol && !we)=false/\zv b k fst S=true)->(ia bs fst S we K=-1\/∃k b,k<K+1/\bs[k]?=za b/\ia bs fst S we K=b.rule/\(b.eol && !we)=false/\zv b k fst S=true):=λh=>h.imp id λ⟨k,b,e,r⟩=>⟨k,b,by omega,r⟩
  rw[hs];cases hb:bs[K]? with
  |none=>
   refine⟨up h1,λk b hk e1 e2 e3=>?_⟩;rcases iX k K with q|q
   ·exact h2 k b q e1 e2 e3
   ·obtain rfl:k=K:=by omega
    rw[hb]at e1;cases e1
  |some b=>
   show zxB bs fst S we (K+1) (if (b.eol && !we)=true then ia bs fst S we K else if zv b K fst S=true/\(ia bs fst S we K<0\/(b.rule:Int)<ia bs fst S we K) then b.rule else ia bs fst S we K);split
   ·rename_i he
    refine⟨up h1,λk b' hk e1 e2 e3=>?_⟩;rcases iX k K with q|q
    ·exact h2 k b' q e1 e2 e3
    ·obtain rfl:k=K:=by omega
     rw[hb]at e1;cases e1;rw[he]at e2;cases e2
   ·rename_i he
    split
    ·rename_i hh
     refine⟨.inr ⟨K,b,by omega,hb,rfl,by simpa using he,hh.1⟩,λk b' hk e1 e2 e3=>?_⟩;rcases iX k K with q|q
     ·have:=h2 k b' q e1 e2 e3;refine⟨by omega,?_⟩;rcases hh.2 with h|h<;>omega
     ·obtain rfl:k=K:=by omega
      rw[hb]at e1;cases e1;exact⟨by omega,Ai _⟩
    ·rename_i hh
     refine⟨up h1,λk b' hk e1 e2 e3=>?_⟩;rcases iX k K with q|q
     ·exact h2 k b' q e1 e2 e3
     ·obtain rfl:k=K:=by omega
      rw[hb]at e1;cases e1;have:=not_and.1 hh e3;omega
theorem ztv(bs:List dn)(fst:Bool)(S:St)(we:Bool)(hr:∀(k:Nat) (b:dn),bs[k]?=za b->b.rule<=99):-1<=yV bs fst S we/\yV bs fst S we<=99:=by
 rcases(ztw bs fst S we bs.length).1 with e|⟨k,b,h1,h2,h3,-⟩
 ·unfold yV;omega
 ·have:=hr k b h2;unfold yV;omega
def mg(bs:List dn):List (Nat->Bool):=bs.flatMap λb=>(List.range b.ga.n).map b.ga.st
def Qw(b:Bool):Nat:=if b=true then 1 else 0
theorem znw{a b:Bool}:Qw a=Qw b↔a=b:=by cases a<;>cases b<;>simp[Qw]
def mY(bs:List dn)(k c:Nat):Nat:=Qw ((mg bs).getD k (λ_=>false) c)
def Ds(bs:List dn)(h c:Nat):Prop:=∀(k:Nat) (b:dn) (i:Nat),bs[k]?=za b->i<b.ga.n->b.ga.st i h=b.ga.st i c
theorem znt(bs:List dn)(h c:Nat):lC (mg bs).length (mY bs) h c=true↔Ds bs h c:=by
 rw[OJ];have e:(∀k,k<(mg bs).length->mY bs k h=mY bs k c)↔∀f∈mg bs,f h=f c:=by
  constructor
  ·intro H f hf;obtain⟨k,hk,rfl⟩:=Al.1 hf;have:=H k hk;unfold mY at this;rw[znw]at this
   simpa [List.getD,hk]using this
  ·intro H k hk;unfold mY;rw[znw];have:=H ((mg bs)[k]) (gA hk)
   simpa [List.getD,hk]using this
 rw[e];unfold mg Ds;simp only[List.mem_flatMap,Am,qm];constructor
 ·intro H k b i hb hi;exact H _ ⟨b,IL hb,i,hi,rfl⟩
 ·rintro H f ⟨b,hb,i,hi,rfl⟩;obtain⟨k,hk,rfl⟩:=Al.1 hb;exact H k _ i (bE hk) hi
def iA(bs:List dn):List Nat:=aY (mg bs).length (mY bs) 256
def xy(bs:List dn)(c:Nat):Nat:=fN (mg bs).length (mY bs) c
open Classical in
noncomputable def pZ (L:List St) (S:St):Nat:=1+L.tail.findIdx λT=>decide (T=S)
noncomputable def uY (bs:List dn) (fst:Bool) (S:St) (st:List St×List Nat) (c:Nat):List St×List Nat:=
 (if pZ st.1 (lh bs fst S c)<st.1.length then st.1 else st.1++[lh bs fst S c],st.2++[pZ st.1 (lh bs fst S c)])
noncomputable def qT (bs:List dn) (fst:Bool) (S:St) (st:List St×List Nat) (m:Nat):List St×List Nat:=((iA bs).take m).foldl (uY bs fst S) st
noncomputable def dS (bs:List dn):Nat->List St×List Nat
 |0=>([fT],[])
 |k+1=>qT bs (k==0) ((dS bs k).1.getD k fT) (dS bs k) (iA bs).length
theorem Ts(bs:List dn)(fst:Bool)(S:St)(st:List St×List Nat){m:Nat}(h:m<(iA bs).length):qT bs fst S st (m+1)=uY bs fst S (qT bs fst S st m) ((iA bs).getD m 0):=by
 unfold qT;rw[List.take_add_one,bE h,Option.toList_some,List.foldl_append];simp[List.getD,h]
theorem zrQ{bs:List dn}{S:St}{st:List St×List Nat}:st.1.length<=(uY bs fst S st c).1.length/\(uY bs fst S st c).1.length<=st.1.length+1:=by
 have e:(uY bs fst S st c).1=if pZ st.1 (lh bs fst S c)<st.1.length then st.1 else st.1++[lh bs fst S c]:=rfl
 rw[e];split
 ·exact⟨aq _,by omega⟩
 ·rw[aQ];simp
theorem zs2{bs:List dn}{S:St}{st:List St×List Nat}(P:List St×List Nat->Prop)(h0:P st)(hs:∀x c,P x->P (uY bs fst S x c)):∀m,P (qT bs fst S st m):=by
 intro m;unfold qT;generalize (iA bs).take m=l;clear m
 induction l generalizing st with
 |nil=>exact h0
 |cons a l ih=>exact ih (hs _ _ h0)
theorem zu6{bs:List dn}{S:St}{st:List St×List Nat}:∃l,(uY bs fst S st c).1=st.1++l:=by
 have e:(uY bs fst S st c).1=if pZ st.1 (lh bs fst S c)<st.1.length then st.1 else st.1++[lh bs fst S c]:=rfl
 rw[e];split
 ·exact⟨[],by simp⟩
 ·exact⟨_,rfl⟩
theorem zn9(bs:List dn)(fst:Bool)(S:St)(st:List St×List Nat)(m:Nat):∃l,(qT bs fst S st m).1=st.1++l:=
 zs2 (λx=>∃l,x.1=st.1++l) ⟨[],by simp⟩ (λx c ⟨l,h⟩=>by
  obtain⟨l2,h2⟩:=zu6 (bs:=bs) (fst:=fst) (S:=S) (st:=x) (c:=c);exact⟨l++l2,by rw[h2,h,gJ]⟩) m
theorem zn8(bs:List dn)(fst:Bool)(S:St)(st:List St×List Nat)(m:Nat):st.1.length<=(qT bs fst S st m).1.length:=by
 obtain⟨l,h⟩:=zn9 bs fst S st m;rw[h,aQ];omega
theorem zlI(bs:List dn)(fst:Bool)(S:St)(st:List St×List Nat):∀m,m<=(iA bs).length->(qT bs fst S st m).1.length<=st.1.length+m
 |0,_=>aq _
 |m+1,h=>by
  rw[Ts bs fst S st (by omega)];have:=zlI bs fst S st m (by omega);have:=(zrQ (bs:=bs) (fst:=fst) (S:=S) (st:=qT bs fst S st m) (c:=(iA bs).getD m 0)).2;omega
theorem TQ(bs:List dn)(k:Nat):dS bs (k+1)=qT bs (k==0) ((dS bs k).1.getD k fT) (dS bs k) (iA bs).length:=rfl
theorem znf(bs:List dn)(k:Nat):(dS bs k).1.length<=(dS bs (k+1)).1.length:=by rw[TQ];exact zn8 _ _ _ _ _
theorem zng(bs:List dn):∀k,0<(dS bs k).1.length
 |0=>by simp[dS]
 |k+1=>dR (zng bs k) (znf bs k)
structure yG(bs:List dn)(most K:Nat):Prop where
 len:(dS bs K).1.length=K
 go:∀k,k<K->k<(dS bs k).1.length/\(dS bs (k+1)).1.length<=most
structure Jd(bs:List dn)(most k0:Nat):Prop where
 go:∀k,k<k0->k<(dS bs k).1.length/\(dS bs (k+1)).1.length<=most
 lt:k0<(dS bs k0).1.length
 big:most<(dS bs (k0+1)).1.length
theorem zth(bs:List dn)(most:Nat):(∃K,yG bs most K)\/∃k0,Jd bs most k0:=by
 have step:∀n,(∃K,yG bs most K)\/(∃k0,Jd bs most k0)\/∀k,k<n->k<(dS bs k).1.length/\(dS bs (k+1)).1.length<=most:=by
  intro n
  induction n with
  |zero=>exact .inr (.inr λk h=>absurd h (by omega))
  |succ n ih=>
   rcases ih with h|h|h
   ·exact .inl h
   ·exact .inr (.inl h)
   ·have h0:n<=(dS bs n).1.length:=by
     cases n with
     |zero=>omega
     |succ n=>
      have:=(h n (by omega)).1;have:=znf bs n;omega
    rcases iX n (dS bs n).1.length with a|a
    ·rcases iX most (dS bs (n+1)).1.length with b|b
     ·exact .inr (.inl ⟨n,h,a,b⟩)
     ·refine .inr (.inr λk hk=>?_);rcases iX k n with c|c
      ·exact h k c
      ·obtain rfl:k=n:=by omega
       exact⟨a,b⟩
    ·exact .inl ⟨n,by omega,h⟩
 rcases step (most+2) with h|h|h
 ·exact .inl h
 ·exact .inr h
 ·have h1:=h (most+1) (by omega);have h2:=h most (by omega);omega
open Classical in
theorem zvz(L:List St)(S:St)(h:0<L.length):1<=pZ L S/\pZ L S<=L.length:=by
 unfold pZ;have:=LG (p:=λT=>decide (T=S)) (xs:=L.tail);rw[List.length_tail]at this;exact⟨by omega,by omega⟩
structure BO(st:List St×List Nat)(n:Nat):Prop where
 pos:0<st.1.length
 nl:st.2.length=n
 lt:∀x∈st.2,x<st.1.length
theorem BO.upd{bs:List dn}{S:St}{st:List St×List Nat}(h:BO st n)(c:Nat):BO (uY bs fst S st c) (n+1):=by
 have h1:=(zrQ (bs:=bs) (fst:=fst) (S:=S) (st:=st) (c:=c)).1;refine⟨dR h.pos h1,?_,λx hx=>?_⟩
 ·show (st.2++[_]).length=_;rw[aQ,h.nl];rfl
 ·have hx:x∈st.2++[pZ st.1 (lh bs fst S c)]:=hx;rw[gH,sZ]at hx;rcases hx with hx|rfl
  ·exact dR (h.lt x hx) h1
  ·have hl:=(zvz st.1 (lh bs fst S c) h.pos).2;have e:(uY bs fst S st c).1=if pZ st.1 (lh bs fst S c)<st.1.length then st.1 else st.1++[lh bs fst S c]:=rfl
   rw[e];split
   ·assumption
   ·rw[aQ,IK];omega
theorem BO.part{bs:List dn}{S:St}{st:List St×List Nat}(h:BO st n):∀m,m<=(iA bs).length->BO (qT bs fst S st m) (n+m)
 |0,_=>h
 |m+1,hm=>by
  rw[Ts bs fst S st (by omega)];exact(BO.part h m (by omega)).upd _
theorem O5(bs:List dn):∀k,BO (dS bs k) (k*(iA bs).length)
 |0=>⟨by simp[dS],by simp[dS],λx h=>by simp[dS]at h⟩
 |k+1=>by
  rw[TQ,Bp];exact(O5 bs k).part _ (aq _)
noncomputable def ie (bs:List dn) (K:Nat):aL where
 ai:=(List.range 256).map λc=>(xy bs c:Int)
 width:=(iA bs).length
 next:=(dS bs K).2.map λ(x:Nat)=>(x:Int)
 tag:=(List.range K).map λk=>yV bs (k==0) ((dS bs K).1.getD k fT) false
 fin:=(List.range K).map λk=>yV bs (k==0) ((dS bs K).1.getD k fT) true
end
section
variable {k N c:Nat}{m:Nat -> Bool}{S:St}{fst:Bool}
structure nu where
 rule:Nat
 bol:Bool
 eol:Bool
 gz:Nat
abbrev Xs:=List (nu×GT)
def aF(X:Xs):List dn:=X.map λx=>⟨x.1.rule,x.1.bol,x.1.eol,x.2.ga⟩
theorem Lh{X:Xs}{x:nu×GT}(h:X[k]?=za x):(aF X)[k]?=za ⟨x.1.rule,x.1.bol,x.1.eol,x.2.ga⟩:=by simp[aF,h]
theorem znx{X:Xs}(h:X.length<=k):(aF X)[k]?=zb:=by simp[aF,h]
theorem ztX(X:Xs):(aF X).length=X.length:=by simp[aF]
structure Fv(X:Xs)(N:Nat):Prop where
 inj:∀(k k':Nat) (x x':nu×GT) (i i':Nat),X[k]?=za x->X[k']?=za x'->i<x.2.ga.n->i'<x'.2.ga.n->x.2.at i=x'.2.at i'->k=k'/\i=i'
 lt:∀(k:Nat) (x:nu×GT) (i:Nat),X[k]?=za x->i<x.2.ga.n->x.2.at i<N
def InM(X:Xs)(S:St)(p:Nat):Prop:=∃(k:Nat) (x:nu×GT) (i:Nat),X[k]?=za x/\i<x.2.ga.n/\p=x.2.at i/\S k i=true
def vB(X:Xs)(N:Nat)(m:Nat->Bool)(S:St):Prop:=∀p,p<N->(m p=true↔InM X S p)
def F8(X:Xs)(S:St):Prop:=∀k i,S k i=true->∃x,X[k]?=za x/\i<x.2.ga.n
theorem zrL(X:Xs):F8 X fT:=λk i h=>by simp[fT]at h
theorem zsL(X:Xs)(N:Nat):vB X N (λ_=>false) fT:=λp _=>⟨λh=>absurd h Bool.false_ne_true,λ⟨k,x,i,_,_,_,h⟩=>by simp[fT]at h⟩
theorem zrM(X:Xs)(fst:Bool)(S:St)(c:Nat):F8 X (lh (aF X) fst S c):=λk j h=>by
 unfold lh at h;rcases iX k X.length with hk|hk
 ·have hx:=bE hk;rw[Lh hx]at h;simp only[fI]at h;exact⟨_,hx,GA.qI _ _ _ h.1⟩
 ·rw[znx hk]at h;cases h
theorem vB.at{X:Xs}(h:vB X N m S)(hL:Fv X N){k i:Nat}{x:nu×GT}(hx:X[k]?=za x)(hi:i<x.2.ga.n):m (x.2.at i)=true↔S k i=true:=by
 rw[h _ (hL.lt k x i hx hi)];constructor
 ·rintro ⟨k',x',i',h1,h2,h3,h4⟩;obtain⟨rfl,rfl⟩:=hL.inj k k' x x' i i' hx h1 hi h2 h3;exact h4
 ·intro h4;exact⟨k,x,i,hx,hi,rfl,h4⟩
theorem zti{X:Xs}{m':Nat->Bool}{S':St}(h:vB X N m S)(h':vB X N m' S')(hL:Fv X N)(hS:F8 X S)(JJ:F8 X S'):(∀p,p<N->m p=m' p)↔S=S':=by
 constructor
 ·intro he;funext k i;rw[FC];constructor
  ·intro hs;obtain⟨x,hx,hi⟩:=hS k i hs;rw[<-h'.at hL hx hi,<-he _ (hL.lt k x i hx hi),h.at hL hx hi];exact hs
  ·intro hs;obtain⟨x,hx,hi⟩:=JJ k i hs;rw[<-h.at hL hx hi,he _ (hL.lt k x i hx hi),h'.at hL hx hi];exact hs
 ·rintro rfl p hp;rw[FC,h p hp,h' p hp]
theorem zrI{X:Xs}{j:Nat}{x:nu×GT}(hx:X[k]?=za x):lh (aF X) fst S c k j=true↔x.2.ga.st j c=true/\(((fst || !x.1.bol)=true/\x.2.ga.fst j=true)\/∃i,i<x.2.ga.n/\S k i=true/\x.2.ga.ii i j=true):=by
 unfold lh;rw[Lh hx];simp only[fI,nt,List.any_eq_true,qm]
def qa(X:Xs)(fst:Bool)(m:Nat->Bool)(c:Nat):Nat->Nat->Bool
 |0,_=>false
 |K+1,p=>qa X fst m c K p || match X[K]? with
  |none=>false
  |some x=>dF m c x.2 (fst || !x.1.bol) p
theorem zq2{X:Xs}{p:Nat}:∀K,qa X fst m c K p=true↔∃(k:Nat) (x:nu×GT),k<K/\X[k]?=za x/\dF m c x.2 (fst || !x.1.bol) p=true
 |0=>⟨λh=>absurd h (by simp[qa]),λ⟨k,_,h,_⟩=>absurd h (by omega)⟩
 |K+1=>by
  show (qa X fst m c K p || match X[K]? with|none=>false|some x=>dF m c x.2 (fst || !x.1.bol) p)=true↔_;rw[nt,zq2 K];constructor
  ·rintro (⟨k,x,h1,h2,h3⟩|h)
   ·exact⟨k,x,by omega,h2,h3⟩
   ·cases hx:X[K]? with
    |none=>rw[hx]at h;cases h
    |some x=>rw[hx]at h;exact⟨K,x,by omega,hx,h⟩
  ·rintro ⟨k,x,h1,h2,h3⟩;rcases iX k K with h|h
   ·exact .inl ⟨k,x,h,h2,h3⟩
   ·obtain rfl:k=K:=by omega
    right;rw[h2];exact h3
theorem zvB{X:Xs}(h:vB X N m S)(hL:Fv X N)(fst:Bool)(c:Nat):vB X N (qa X fst m c X.length) (lh (aF X) fst S c):=by
 intro p hp;rw[zq2];constructor
 ·rintro ⟨k,x,hk,hx,hs⟩;rw[IB]at hs;obtain⟨j,h1,h2,h3⟩:=hs;refine⟨k,x,j,hx,x.2.ga.qI j c h1,h2,(zrI hx).2 ⟨h1,h3.imp id ?_⟩⟩;rintro ⟨i,h4,h5⟩;have hi:=(x.2.ga.tC i j h5).1;exact⟨i,hi,(h.at hL hx hi).1 h4,h5⟩
 ·rintro ⟨k,x,j,hx,hj,rfl,hs⟩;rw[zrI hx]at hs;refine⟨k,x,(mA.1 hx).1,hx,?_⟩;rw[IB];refine⟨j,hs.1,rfl,hs.2.imp id ?_⟩;rintro ⟨i,hi,h4,h5⟩;exact⟨i,(h.at hL hx hi).2 h4,h5⟩
theorem zvq{X:Xs}(h:vB X N m S)(hL:Fv X N)(fst:Bool){k:Nat}{x:nu×GT}(hx:X[k]?=za x):zv ⟨x.1.rule,x.1.bol,x.1.eol,x.2.ga⟩ k fst S=(ig m x.2 || ((fst || !x.1.bol)&&x.2.ga.fC)):=by
 unfold zv
 congr 1
 rw[FC,A7];simp only[List.any_eq_true,qm,fI];constructor
 ·rintro ⟨i,hi,h1,h2⟩;exact⟨i,h2,(h.at hL hx hi).2 h1⟩
 ·rintro ⟨i,h1,h2⟩;have hi:=x.2.ga.tT i h1;exact⟨i,hi,(h.at hL hx hi).1 h2,h1⟩
theorem zpA{X:Xs}{we:Bool}{x:nu×GT}(hx:X[k]?=za x):ia (aF X) fst S we (k+1)=if (x.1.eol && !we)=true then ia (aF X) fst S we k else if zv ⟨x.1.rule,x.1.bol,x.1.eol,x.2.ga⟩ k fst S=true/\(ia (aF X) fst S we k<0\/(x.1.rule:Int)<ia (aF X) fst S we k) then x.1.rule else ia (aF X) fst S we k:=by
 show (match (aF X)[k]? with
  |none=>ia (aF X) fst S we k
  |some b=>if (b.eol && !we)=true then ia (aF X) fst S we k else if zv b k fst S=true/\(ia (aF X) fst S we k<0\/(b.rule:Int)<ia (aF X) fst S we k) then (b.rule:Int) else ia (aF X) fst S we k)=_
 rw[Lh hx]
end
section
variable {W W' w0 w:zh}{v nv bv:zf}{X:Xs}{Ns:List bB}{go:Nat}
def b4(b:nu):List zf:=[ze .i64 b.rule,.bool b.bol,.bool b.eol,ze .i64 b.gz]
structure yU(W:zh)(v:zf)(X:Xs):Prop where
 len:X.length<=8589934592
 at_:∃ao cap,v=.slice ao X.length cap/\(0<X.length->∃g,ao=za ⟨g,0,zb⟩/\g<W.heap.size/\∀i x,X[i]?=za x->∀j u,(b4 x.1)[j]?=za u->W.cell? ⟨g,i*4+j,zb⟩=za u)
theorem yU.below(h:yU W v X)(hb:zg W.heap.size W W'):yU W' v X:=by
 obtain⟨hl,ao,cap,rfl,h⟩:=h;refine⟨hl,ao,cap,rfl,λh0=>?_⟩;obtain⟨g,rfl,hg,hc⟩:=h h0;exact⟨g,rfl,dR hg hb.size,λi x hx j u hu=>by rw[World.cell?_of_block (w:=W) (hb.block g hg)];exact hc i x hx j u hu⟩
theorem yU.row(h:yU W v X){k:Nat}{x:nu×GT}(hx:X[k]?=za x):∃g cap,v=zc (za ⟨g,0,zb⟩) X.length cap/\g<W.heap.size/\
  W.cell? ⟨g,k*4,zb⟩=za (ze .i64 x.1.rule)/\W.cell? ⟨g,k*4+1,zb⟩=za (.bool x.1.bol)/\W.cell? ⟨g,k*4+2,zb⟩=za (.bool x.1.eol)/\W.cell? ⟨g,k*4+3,zb⟩=za (ze .i64 x.1.gz):=by
 obtain⟨hl,ao,cap,rfl,h⟩:=h;have hn:=(mA.1 hx).1;obtain⟨g,rfl,hg,hc⟩:=h (by omega);have:=hc k x hx;exact⟨g,cap,rfl,hg,this 0 _ rfl,this 1 _ rfl,this 2 _ rfl,this 3 _ rfl⟩
def zxA(Ns:List bB)(X:Xs):Prop:=∀(i:Nat) (x:bB),Ns[i]?=za x->(x.k=115/\∃(k:Nat) (y:nu×GT) (j:Nat),X[k]?=za y/\j<y.2.ga.n/\y.2.at j=i)\/(x.k≠115/\x.k<256/\x.sv=zc zb 0 0)
structure xp(w0 W:zh)(nv bv:zf)(Ns:List bB)(X:Xs):Prop where
 nx:uy W nv Ns
 bx:yU W bv X
 tr:∀(k:Nat) (x:nu×GT),X[k]?=za x->mB w0 Ns x.2 x.1.gz
 cK:Fv X Ns.length
 bl:zg w0.heap.size w0 W
 al:zxA Ns X
theorem xp.below(h:xp w0 W nv bv Ns X)(hb:zg W.heap.size W W'):xp w0 W' nv bv Ns X:=
 ⟨h.nx.below hb,h.bx.below hb,h.tr,h.cK,aH h.bl h.bl.size hb,h.al⟩
theorem mB.lt{T:GT}{n:Nat}(h:mB w0 Ns T n):n<Ns.length:=by
 cases T with
 |s p f=>obtain⟨_,_,_,h,_⟩:=h;exact(mA.1 h).1
 |q a b=>obtain⟨_,_,h,_⟩:=h;exact(mA.1 h).1
 |o a b=>obtain⟨_,_,h,_⟩:=h;exact(mA.1 h).1
 |st a=>obtain⟨_,h,_⟩:=h;exact(mA.1 h).1
 |e=>have h:Ns[n]?=_:=h;exact(mA.1 h).1
theorem uy.VT(h:uy W v Ns)(h0:0<Ns.length):∀g n cap,v=zc (za ⟨g,0,zb⟩) n cap->g<W.heap.size:=by
 obtain⟨hl,ao,cap,rfl,h⟩:=h;obtain⟨g,rfl,hg,-⟩:=h h0;intro g' n c e;cases e;exact hg
theorem yU.VT(h:yU W v X)(h0:0<X.length):∀g n cap,v=zc (za ⟨g,0,zb⟩) n cap->g<W.heap.size:=by
 obtain⟨hl,ao,cap,rfl,h⟩:=h;obtain⟨g,rfl,hg,-⟩:=h h0;intro g' n c e;cases e;exact hg
theorem yU.lS(h:yU w v X)(t:lA (· = go) w W)(hg:0<X.length->∀g n cap,v=zc (za ⟨g,0,zb⟩) n cap->g≠go):yU W v X:=by
 obtain⟨hl,ao,cap,rfl,h⟩:=h;refine⟨hl,ao,cap,rfl,λh0=>?_⟩;obtain⟨g,rfl,iK,hc⟩:=h h0;exact⟨g,rfl,dR iK t.size,λi x hx j u hu=>by rw[World.cell?_of_block (w:=w) (t.same g iK (hg h0 g _ _ rfl))];exact hc i x hx j u hu⟩
theorem zhN(N:Nat):(List.replicate N (Value.bool false)).toArray=AD N (λ_=>false):=by
 unfold AD
 congr 1
 apply List.ext_getElem?
 intro j;simp[List.getElem?_replicate]
 by_cases h:j<N<;>simp[h]
structure IP(w0 w W:zh)(nv bv:zf)(Ns:List bB)(X:Xs)(gm go:Nat)(m O:Nat->Bool):Prop where
 box:W.heap[w.heap.size]?=za (zi #[nv,bv] 89 (0,0))
 sp:xp w0 W nv bv Ns X
 ma:gZ W gm Ns.length m
 ou:gZ W go Ns.length O
 bl:zg w.heap.size w W
theorem IP.call{gm:Nat}{m O:Nat->Bool}(h:IP w0 w W nv bv Ns X gm go m O)(hb:zg W.heap.size W W'):IP w0 w W' nv bv Ns X gm go m O:=
 ⟨(hb.block _ (ay h.box)).trans h.box,h.sp.below hb,h.ma.below hb,h.ou.below hb,aH h.bl h.bl.size hb⟩
theorem zo3(w0 w:zh)(nv bv:zf)(Ns:List bB)(X:Xs)(fst:Bool)(gm cm c:Nat)(m:Nat->Bool)(hS:xp w0 w nv bv Ns X)(hM:gZ w gm Ns.length m)(hc:c<256):
  zk prog 57 #[zj #[nv,bv],.bool fst,zc (za ⟨gm,0,zb⟩) Ns.length cm,.int .u8 c] w λe W=>∃go,e=.returned (zc (za ⟨go,0,zb⟩) Ns.length Ns.length)/\w.heap.size<=go/\gZ W go Ns.length (qa X fst m c X.length)/\zg w.heap.size w W:=by
 obtain⟨i0,hi,da,dt,cR⟩:=info_parts Tryz.zzL;have jo:=hS.nx.len;have Cn:=hS.bx.len;have RE:gm<w.heap.size:=ay hM;obtain⟨bo,uD,rfl,-⟩:=hS.bx.at_;obtain⟨W0,aw⟩:∃W0,w.alloc (zi #[nv,.slice bo X.length uD] 89)=W0:=⟨_,rfl⟩;have b0:zg w.heap.size w W0:=by rw[<-aw];exact ax
 have x0:W0.heap[w.heap.size]?=za (zi #[nv,.slice bo X.length uD] 89 (0,0)):=by rw[<-aw];exact aJ _ _
 have oB:∀W1,zg W0.heap.size W0 W1->W1.heap[W0.heap.size]?=za (zi (AD Ns.length (λ_=>false)) 4 (0,0))->IP w0 w W1 nv (.slice bo X.length uD) Ns X gm W0.heap.size m (qa X fst m c 0):=λW1 h1 h2=>
  have hb:=aH b0 b0.size h1
  ⟨(h1.block _ (ay x0)).trans x0,hS.below hb,hM.below hb,h2,hb⟩
 have um:=ag oB;have bD:=ag aw;have HC:=ag hc;have hgo:w.heap.size<W0.heap.size:=ay x0;have pU:=hS.nx.VT;have HNB:=ag pU;have bW:=hS.bx.VT;have yJ:=ag bW;have Sr:=hS.bl.size;clear hS hM x0 aw hc oB pU bW
 go_enter func57,ntmps57
 go_upto_region 1 with fail
 rw[bD.out];clear bD
 go_wp2_with (refine wpList_make_full _ rfl _ _ 93 rfl w.heap.size 4 i0 _ 1 underlying93 hi da dt _ _ _ _ Ns.length rfl rfl rfl rfl (by rw[cR];omega) (by unfold maxLen;omega) b0.size ?_;intro W1 bL jn;rw[zi7]at bL;have qE:=zlF bL;rw[zhN]at qE;have Jy:=um.out W1 ((Below.refl _ _).grown jn (aq _) (by intro k h;cases h)) qE;clear bL jn qE um;obtain⟨p0,p1⟩:=dV Jy.box)
 generalize zBB:W0.heap.size=go at *;clear zBB;clear b0
 go_loopw [18] (λi wr=>∃k:Nat,k<=X.length/\i=ze .i64 k/\IP w0 w wr nv (.slice bo X.length uD) Ns X gm go m (qa X fst m c k)) (λi _=>X.length-(intOf i).toNat)
 case atStart=>exact⟨0,dz _,rfl,Jy⟩
 case round=>
  obtain⟨k,hk,rfl,hI⟩:=hrel;clear Jy p0 p1
  by_cases hlt:k<X.length
  ·have hx:=bE hlt;obtain⟨x,zJ⟩:∃x,X[k]=x:=⟨_,rfl⟩;rw[zJ]at hx;clear zJ;obtain⟨gb,cb,xL,GK,c0,c1,c2,c3⟩:=hI.sp.bx.row hx;cases xL;obtain⟨p0,p1⟩:=dV hI.box;have tD:=hI.sp.tr k x hx;have eC:(0:Int)<=(k:Int):=by omega
   have dg:(k:Int)<(X.length:Int):=by omega
   obtain⟨W2,fe⟩:∃W2,wr.alloc (zi #[ze .i64 x.1.rule,.bool x.1.bol,.bool x.1.eol,ze .i64 x.1.gz] 121)=W2:=⟨_,rfl⟩;have b2:zg wr.heap.size wr W2:=by rw[<-fe];exact ax
   have x2:W2.heap[wr.heap.size]?=za (zi #[ze .i64 x.1.rule,.bool x.1.bol,.bool x.1.eol,ze .i64 x.1.gz] 121 (0,0)):=by rw[<-fe];exact aJ _ _
   have ir:=hI.call b2;have hA:BP w0 W2 nv Ns gm go Ns.length m (qa X fst m c k):=⟨ir.sp.nx,ir.ma,ir.ou,by omega,λg n cap e h=>by
    have:=HNB.out (by have:=tD.lt;omega) g n cap e;omega,aq _,ir.sp.bl,by omega⟩
   have hs:=KZ w0 x.2 Ns x.1.gz W2 nv (zc (za ⟨gb,0,zb⟩) X.length uD) gm cm go Ns.length Ns.length c m (qa X fst m c k) (fst || !x.1.bol) hA tD HC.out;have ho:∀p,qa X fst m c (k+1) p=(qa X fst m c k p || dF m c x.2 (fst || !x.1.bol) p):=λp=>by
    show (qa X fst m c k p || match X[k]? with|none=>false|some x=>dF m c x.2 (fst || !x.1.bol) p)=_;rw[hx]
   have hj:∀W3,gZ W3 go Ns.length (λp=>qa X fst m c k p || dF m c x.2 (fst || !x.1.bol) p)->lA (· = go) W2 W3->IP w0 w W3 nv (zc (za ⟨gb,0,zb⟩) X.length uD) Ns X gm go m (qa X fst m c (k+1)):=λW3 h1 h2=>by
    rw[show qa X fst m c (k+1)=λp=>qa X fst m c k p || dF m c x.2 (fst || !x.1.bol) p from funext ho];have Wu:=hA.lS h2 h1;have hb:zg w.heap.size w W3:=⟨h2.os.trans ir.bl.os,h2.tape.trans ir.bl.tape,h2.output.trans ir.bl.output,cY ir.bl.size h2.size,λj hj=>(h2.same j (dR hj ir.bl.size) (by omega)).trans (ir.bl.block j hj)⟩;exact⟨(h2.same _ (ay ir.box) (by omega)).trans ir.box,⟨Wu.nx,ir.sp.bx.lS h2 (λh0 g n cap e h=>by have:=yJ.out h0 g n cap e;omega),ir.sp.tr,ir.sp.cK,Wu.bl,ir.sp.al⟩,Wu.ma,h1,hb⟩
   have HJ:=ag hj;have lI:=ag fe;obtain⟨q0,q1,q2,q3⟩:=eG x2;obtain⟨r0,r1⟩:=dV ir.box;generalize sw:x.1.rule=rl at *;generalize bF:x.1.bol=bl at *;generalize tK:x.1.eol=el at *;generalize YI:x.1.gz=tp at *;clear sw bF tK YI hI ir hA ho hj fe hx tD x2;cases fst
   ·simp only[Bool.false_or]at hs HJ
    go_upto_region 5 with fail
    rw[lI.out];clear lI c0 c1 c2 c3 p0 p1
    go_wp2_with fail
    refine hs.mono ?_;rintro e W3 ⟨rfl,o3,t3⟩;clear hs;go_wp2
    go_roundw
    case rel=>exact⟨k+1,by omega,by go_num,HJ.out W3 o3 t3⟩
    case measure=>simp[intOf];omega
   ·simp only[Ah]at hs HJ
    go_upto_region 5 with fail
    rw[lI.out];clear lI c0 c1 c2 c3 p0 p1
    go_wp2_with fail
    refine hs.mono ?_;rintro e W3 ⟨rfl,o3,t3⟩;clear hs;go_wp2
    go_roundw
    case rel=>exact⟨k+1,by omega,by go_num,HJ.out W3 o3 t3⟩
    case measure=>simp[intOf];omega
  ·have cC:k=X.length:=by omega
   have HI:=ag hI;clear hI;go_wp2;refine aW (v:=zc (za ⟨go,0,zb⟩) Ns.length Ns.length) (by simp[results,results57,go_sem]) rfl ⟨go,rfl,by omega,?_,HI.out.bl⟩;have:=HI.out.ou;rw[cC]at this;exact this
end
section
variable {el we h:Bool}{a0 rl:Int}
theorem yl(h1:(el && !we)=false)(h2:h=true)(h3:a0<0\/rl<a0):(if (el && !we)=true then a0 else if h=true/\(a0<0\/rl<a0) then rl else a0)=rl:=by
 rw[ab (by rw[h1];exact Bool.false_ne_true),af ⟨h2,h3⟩]
theorem Ln(h1:(el && !we)=false)(h3:0<=a0/\a0<=rl):(if (el && !we)=true then a0 else if h=true/\(a0<0\/rl<a0) then rl else a0)=a0:=by
 rw[ab (by rw[h1];exact Bool.false_ne_true),ab (λk=>by omega)]
structure IQ(w0 w W:zh)(nv bv:zf)(Ns:List bB)(X:Xs)(gm:Nat)(m:Nat->Bool):Prop where
 box:W.heap[w.heap.size]?=za (zi #[nv,bv] 89 (0,0))
 sp:xp w0 W nv bv Ns X
 ma:gZ W gm Ns.length m
 bl:zg w.heap.size w W
theorem IQ.call{w0 w W W':zh}{nv bv:zf}{Ns:List bB}{X:Xs}{gm:Nat}{m:Nat->Bool}(h:IQ w0 w W nv bv Ns X gm m)(hb:zg W.heap.size W W'):IQ w0 w W' nv bv Ns X gm m:=
 ⟨(hb.block _ (ay h.box)).trans h.box,h.sp.below hb,h.ma.below hb,aH h.bl h.bl.size hb⟩
theorem zhI(w0 w:zh)(nv bv:zf)(Ns:List bB)(X:Xs)(fst we:Bool)(gm cm:Nat)(m:Nat->Bool)(S:St)(hS:xp w0 w nv bv Ns X)(hM:gZ w gm Ns.length m)(hm:vB X Ns.length m S):
  zk prog 56 #[zj #[nv,bv],.bool fst,zc (za ⟨gm,0,zb⟩) Ns.length cm,.bool we] w λe W=>e=.returned (ze .i64 (yV (aF X) fst S we))/\zg w.heap.size w W:=by
 have jo:=hS.nx.len;have Cn:=hS.bx.len;have RE:gm<w.heap.size:=ay hM;obtain⟨bo,uD,rfl,-⟩:=hS.bx.at_;obtain⟨W0,aw⟩:∃W0,w.alloc (zi #[nv,.slice bo X.length uD] 89)=W0:=⟨_,rfl⟩;have b0:zg w.heap.size w W0:=by rw[<-aw];exact ax
 have x0:W0.heap[w.heap.size]?=za (zi #[nv,.slice bo X.length uD] 89 (0,0)):=by rw[<-aw];exact aJ _ _
 have oB:IQ w0 w W0 nv (.slice bo X.length uD) Ns X gm m:=⟨x0,hS.below b0,hM.below b0,b0⟩;obtain⟨p0,p1⟩:=dV x0;have bD:=ag aw;have HM:=ag hm;have HL:=ag hS.cK;clear hS hM x0 aw b0 hm
 go_enter func56,ntmps56
 go_upto_region 1 with fail
 rw[bD.out];clear bD
 go_wp2_with fail
 go_loopw [9,16] (λzAD i wr=>∃k:Nat,k<=X.length/\i=ze .i64 k/\zAD=ze .i64 (ia (aF X) fst S we k)/\IQ w0 w wr nv (.slice bo X.length uD) Ns X gm m) (λ_ i _=>X.length-(intOf i).toNat)
 case atStart=>exact⟨0,dz _,rfl,rfl,oB⟩
 case round=>
  obtain⟨k,hk,rfl,rfl,hI⟩:=hrel;clear oB p0 p1
  by_cases hlt:k<X.length
  ·have hx:=bE hlt;obtain⟨x,zJ⟩:∃x,X[k]=x:=⟨_,rfl⟩;rw[zJ]at hx;clear zJ;obtain⟨gb,cb,xL,GK,c0,c1,c2,c3⟩:=hI.sp.bx.row hx;cases xL;obtain⟨p0,p1⟩:=dV hI.box;have tD:=hI.sp.tr k x hx;have eC:(0:Int)<=(k:Int):=by omega
   have dg:(k:Int)<(X.length:Int):=by omega
   obtain⟨W2,fe⟩:∃W2,wr.alloc (zi #[ze .i64 x.1.rule,.bool x.1.bol,.bool x.1.eol,ze .i64 x.1.gz] 121)=W2:=⟨_,rfl⟩;have b2:zg wr.heap.size wr W2:=by rw[<-fe];exact ax
   have x2:W2.heap[wr.heap.size]?=za (zi #[ze .i64 x.1.rule,.bool x.1.bol,.bool x.1.eol,ze .i64 x.1.gz] 121 (0,0)):=by rw[<-fe];exact aJ _ _
   have ir:=hI.call b2;have cf:=CQ w0 x.2 Ns x.1.gz W2 nv (zc (za ⟨gb,0,zb⟩) X.length uD) gm cm Ns.length m ir.sp.nx tD ir.ma (aq _);have ce:=λW3 (h:zg W2.heap.size W2 W3)=>Ih w0 x.2 Ns x.1.gz W3 nv (zc (za ⟨gb,0,zb⟩) X.length uD) (ir.call h).sp.nx tD
   have hst:=zpA (fst:=fst) (S:=S) (we:=we) hx;rw[zvq HM.out HL.out fst hx]at hst;have NB:∀W3,zg W2.heap.size W2 W3->W3.heap[wr.heap.size]?=za (zi #[ze .i64 x.1.rule,.bool x.1.bol,.bool x.1.eol,ze .i64 x.1.gz] 121 (0,0))/\IQ w0 w W3 nv (zc (za ⟨gb,0,zb⟩) X.length uD) Ns X gm m:=λW3 h=>⟨(h.block _ (ay x2)).trans x2,ir.call h⟩
   obtain⟨q0,q1,q2,q3⟩:=eG x2;obtain⟨r0,r1⟩:=dV ir.box;generalize sw:x.1.rule=rl at *;generalize bF:x.1.bol=bl at *;generalize tK:x.1.eol=el at *;generalize YI:x.1.gz=tp at *;generalize hv:ig m x.2=v at *;generalize hem:x.2.ga.fC=em at *;generalize Xo:ia (aF X) fst S we (k+1)=a1 at *;generalize Xn:ia (aF X) fst S we k=a0 at *;have lG:=ag Xo;have jT:=ag hst;have yM:=ag NB;have nz:=ag ir;have lI:=ag fe;have PF:=ag ce;clear sw bF tK YI hv hem Xn Xo hI ir fe hx tD x2 hst NB ce b2
   go_upto_region 5 with fail
   rw[lI.out];clear lI c0 c1 c2 c3 p0 p1
   by_cases hc:el=true/\we=false
   ·obtain⟨rfl,rfl⟩:=hc;clear cf;go_wp2
    go_roundw
    case rel=>exact⟨k+1,by omega,by go_num,by rw[lG.out,jT.out];simp,nz.out⟩
    case measure=>simp[intOf];omega
   ·have hd:(el && !we)=false:=by
     cases el
     ·rfl
     ·cases we
      ·exact absurd ⟨rfl,rfl⟩ hc
      ·rfl
    have HD:=ag hd;clear hd hc;have go1:True:=trivial;cases el
    ·skip
     go_wp2_with fail
     refine cf.mono ?_;rintro e W3 ⟨rfl,b3⟩;clear cf;obtain⟨y3,I3⟩:=yM.out W3 b3;have jS:=ag I3;clear I3;obtain⟨q0,q1,q2,q3⟩:=eG y3;obtain⟨r0,r1⟩:=dV jS.out.box;clear y3;cases v
     ·cases fst
      ·cases bl
       ·skip
        have ce:=PF.out W3 b3
        go_wp2_with fail
        refine ce.mono ?_;rintro e W4 ⟨rfl,DR⟩;clear ce;obtain⟨y4,I4⟩:=yM.out W4 (aH b3 b3.size DR);have eT:=ag I4;clear I4;obtain⟨q0,q1,q2,q3⟩:=eG y4;obtain⟨r0,r1⟩:=dV eT.out.box;clear y4;cases em
        ·skip
         go_wp2
         go_roundw
         case rel=>exact⟨k+1,by omega,by go_num,by rw[lG.out,jT.out];simp,eT.out⟩
         case measure=>simp[intOf];omega
        ·skip
         by_cases aO:a0<0
         ·skip
          go_wp2
          go_roundw
          case rel=>exact⟨k+1,by omega,by go_num,by rw[lG.out,jT.out];exact congrArg _ (yl (by simp) (by simp) (by omega)).symm,eT.out⟩
          case measure=>simp[intOf];omega
         ·by_cases aB:(rl:Int)<a0
          ·skip
           go_wp2
           go_roundw
           case rel=>exact⟨k+1,by omega,by go_num,by rw[lG.out,jT.out];exact congrArg _ (yl (by simp) (by simp) (by omega)).symm,eT.out⟩
           case measure=>simp[intOf];omega
          ·skip
           go_wp2
           go_roundw
           case rel=>exact⟨k+1,by omega,by go_num,by rw[lG.out,jT.out];exact congrArg _ (Ln (by simp) (by omega)).symm,eT.out⟩
           case measure=>simp[intOf];omega
       ·skip
        go_wp2
        go_roundw
        case rel=>exact⟨k+1,by omega,by go_num,by rw[lG.out,jT.out];simp,jS.out⟩
        case measure=>simp[intOf];omega
      ·skip
       have ce:=PF.out W3 b3
       go_wp2_with fail
       refine ce.mono ?_;rintro e W4 ⟨rfl,DR⟩;clear ce;obtain⟨y4,I4⟩:=yM.out W4 (aH b3 b3.size DR);have eT:=ag I4;clear I4;obtain⟨q0,q1,q2,q3⟩:=eG y4;obtain⟨r0,r1⟩:=dV eT.out.box;clear y4;cases em
       ·skip
        go_wp2
        go_roundw
        case rel=>exact⟨k+1,by omega,by go_num,by rw[lG.out,jT.out];simp,eT.out⟩
        case measure=>simp[intOf];omega
       ·skip
        by_cases aO:a0<0
        ·skip
         go_wp2
         go_roundw
         case rel=>exact⟨k+1,by omega,by go_num,by rw[lG.out,jT.out];exact congrArg _ (yl (by simp) (by simp) (by omega)).symm,eT.out⟩
         case measure=>simp[intOf];omega
        ·by_cases aB:(rl:Int)<a0
         ·skip
          go_wp2
          go_roundw
          case rel=>exact⟨k+1,by omega,by go_num,by rw[lG.out,jT.out];exact congrArg _ (yl (by simp) (by simp) (by omega)).symm,eT.out⟩
          case measure=>simp[intOf];omega
         ·skip
          go_wp2
          go_roundw
          case rel=>exact⟨k+1,by omega,by go_num,by rw[lG.out,jT.out];exact congrArg _ (Ln (by simp) (by omega)).symm,eT.out⟩
          case measure=>simp[intOf];omega
     ·skip
      by_cases aO:a0<0
      ·skip
       go_wp2
       go_roundw
       case rel=>exact⟨k+1,by omega,by go_num,by rw[lG.out,jT.out];exact congrArg _ (yl (by simp) (by simp) (by omega)).symm,jS.out⟩
       case measure=>simp[intOf];omega
      ·by_cases aB:(rl:Int)<a0
       ·skip
        go_wp2
        go_roundw
        case rel=>exact⟨k+1,by omega,by go_num,by rw[lG.out,jT.out];exact congrArg _ (yl (by simp) (by simp) (by omega)).symm,jS.out⟩
        case measure=>simp[intOf];omega
       ·skip
        go_wp2
        go_roundw
        case rel=>exact⟨k+1,by omega,by go_num,by rw[lG.out,jT.out];exact congrArg _ (Ln (by simp) (by omega)).symm,jS.out⟩
        case measure=>simp[intOf];omega
    ·cases we
     ·exact absurd HD.out (by decide)
     ·skip
      go_wp2_with fail
      refine cf.mono ?_;rintro e W3 ⟨rfl,b3⟩;clear cf;obtain⟨y3,I3⟩:=yM.out W3 b3;have jS:=ag I3;clear I3;obtain⟨q0,q1,q2,q3⟩:=eG y3;obtain⟨r0,r1⟩:=dV jS.out.box;clear y3;cases v
      ·cases fst
       ·cases bl
        ·skip
         have ce:=PF.out W3 b3
         go_wp2_with fail
         refine ce.mono ?_;rintro e W4 ⟨rfl,DR⟩;clear ce;obtain⟨y4,I4⟩:=yM.out W4 (aH b3 b3.size DR);have eT:=ag I4;clear I4;obtain⟨q0,q1,q2,q3⟩:=eG y4;obtain⟨r0,r1⟩:=dV eT.out.box;clear y4;cases em
         ·skip
          go_wp2
          go_roundw
          case rel=>exact⟨k+1,by omega,by go_num,by rw[lG.out,jT.out];simp,eT.out⟩
          case measure=>simp[intOf];omega
         ·skip
          by_cases aO:a0<0
          ·skip
           go_wp2
           go_roundw
           case rel=>exact⟨k+1,by omega,by go_num,by rw[lG.out,jT.out];exact congrArg _ (yl (by simp) (by simp) (by omega)).symm,eT.out⟩
           case measure=>simp[intOf];omega
          ·by_cases aB:(rl:Int)<a0
           ·skip
            go_wp2
            go_roundw
            case rel=>exact⟨k+1,by omega,by go_num,by rw[lG.out,jT.out];exact congrArg _ (yl (by simp) (by simp) (by omega)).symm,eT.out⟩
            case measure=>simp[intOf];omega
           ·skip
            go_wp2
            go_roundw
            case rel=>exact⟨k+1,by omega,by go_num,by rw[lG.out,jT.out];exact congrArg _ (Ln (by simp) (by omega)).symm,eT.out⟩
            case measure=>simp[intOf];omega
        ·skip
         go_wp2
         go_roundw
         case rel=>exact⟨k+1,by omega,by go_num,by rw[lG.out,jT.out];simp,jS.out⟩
         case measure=>simp[intOf];omega
       ·skip
        have ce:=PF.out W3 b3
        go_wp2_with fail
        refine ce.mono ?_;rintro e W4 ⟨rfl,DR⟩;clear ce;obtain⟨y4,I4⟩:=yM.out W4 (aH b3 b3.size DR);have eT:=ag I4;clear I4;obtain⟨q0,q1,q2,q3⟩:=eG y4;obtain⟨r0,r1⟩:=dV eT.out.box;clear y4;cases em
        ·skip
         go_wp2
         go_roundw
         case rel=>exact⟨k+1,by omega,by go_num,by rw[lG.out,jT.out];simp,eT.out⟩
         case measure=>simp[intOf];omega
        ·skip
         by_cases aO:a0<0
         ·skip
          go_wp2
          go_roundw
          case rel=>exact⟨k+1,by omega,by go_num,by rw[lG.out,jT.out];exact congrArg _ (yl (by simp) (by simp) (by omega)).symm,eT.out⟩
          case measure=>simp[intOf];omega
         ·by_cases aB:(rl:Int)<a0
          ·skip
           go_wp2
           go_roundw
           case rel=>exact⟨k+1,by omega,by go_num,by rw[lG.out,jT.out];exact congrArg _ (yl (by simp) (by simp) (by omega)).symm,eT.out⟩
           case measure=>simp[intOf];omega
          ·skip
           go_wp2
           go_roundw
           case rel=>exact⟨k+1,by omega,by go_num,by rw[lG.out,jT.out];exact congrArg _ (Ln (by simp) (by omega)).symm,eT.out⟩
           case measure=>simp[intOf];omega
      ·skip
       by_cases aO:a0<0
       ·skip
        go_wp2
        go_roundw
        case rel=>exact⟨k+1,by omega,by go_num,by rw[lG.out,jT.out];exact congrArg _ (yl (by simp) (by simp) (by omega)).symm,jS.out⟩
        case measure=>simp[intOf];omega
       ·by_cases aB:(rl:Int)<a0
        ·skip
         go_wp2
         go_roundw
         case rel=>exact⟨k+1,by omega,by go_num,by rw[lG.out,jT.out];exact congrArg _ (yl (by simp) (by simp) (by omega)).symm,jS.out⟩
         case measure=>simp[intOf];omega
        ·skip
         go_wp2
         go_roundw
         case rel=>exact⟨k+1,by omega,by go_num,by rw[lG.out,jT.out];exact congrArg _ (Ln (by simp) (by omega)).symm,jS.out⟩
         case measure=>simp[intOf];omega
  ·have cC:k=X.length:=by omega
   have HI:=ag hI;clear hI;go_wp2;refine aW (v:=ze .i64 (ia (aF X) fst S we k)) (by simp[results,results56,go_sem]) rfl ⟨?_,HI.out.bl⟩;rw[cC,<-ztX]
   rfl
theorem zqC(w:zh)(N ga gb ca cb:Nat)(m m':Nat->Bool)(hA:gZ w ga N m)(hB:gZ w gb N m')(hN:N<=8589934592):
  zk prog 58 #[zc (za ⟨ga,0,zb⟩) N ca,zc (za ⟨gb,0,zb⟩) N cb] w λe W=>(∃b,e=.returned (.bool b)/\(b=true↔∀p,p<N->m p=m' p))/\zg w.heap.size w W:=by
 have HA:=ag hA;have HB:=ag hB;clear hA hB
 go_enter func58,ntmps58
 go_wp2_with fail
 go_loopw [8] (λi wr=>∃k:Nat,k<=N/\i=ze .i64 k/\zg w.heap.size w wr/\∀p,p<k->m p=m' p) (λi _=>N-(intOf i).toNat)
 case atStart=>exact⟨0,dz _,rfl,Below.refl _ _,λp h=>absurd h (by omega)⟩
 case round=>
  obtain⟨k,hk,rfl,hb,hp⟩:=hrel;have HP:=ag hp;have ul:=ag hb
  by_cases hlt:k<N
  ·have c0:=(HA.out.below hb).cell k hlt;have c1:=(HB.out.below hb).cell k hlt;have eC:(0:Int)<=(k:Int):=by omega
   have dg:(k:Int)<(N:Int):=by omega
   generalize ha:m k=a at *;generalize bW:m' k=b at *;have Pu:=ag ha;have yJ:=ag bW;clear hp hb ha bW;rcases a with _|_<;>rcases b with _|_
   ·skip
    go_upto_region 4 with fail
    go_quiet (fail)
    go_wp2
    go_roundw
    case rel=>exact⟨k+1,by omega,by go_num,aH ul.out ul.out.size ⟨rfl,rfl,rfl,aq _,λ_ _=>rfl⟩,λp h=>by
     rcases iX p k with h'|h'
     ·exact HP.out p h'
     ·obtain rfl:p=k:=by omega
      rw[Pu.out,yJ.out]⟩
    case measure=>simp[intOf];omega
   ·skip
    go_upto_region 4 with fail
    go_quiet (fail)
    go_wp2;go_ret;exact⟨⟨_,rfl,λh=>by simp at h,λh=>by have:=h k hlt;rw[Pu.out,yJ.out]at this;cases this⟩,aH ul.out ul.out.size ⟨rfl,rfl,rfl,aq _,λ_ _=>rfl⟩⟩
   ·skip
    go_upto_region 4 with fail
    go_quiet (fail)
    go_wp2;go_ret;exact⟨⟨_,rfl,λh=>by simp at h,λh=>by have:=h k hlt;rw[Pu.out,yJ.out]at this;cases this⟩,aH ul.out ul.out.size ⟨rfl,rfl,rfl,aq _,λ_ _=>rfl⟩⟩
   ·skip
    go_upto_region 4 with fail
    go_quiet (fail)
    go_wp2
    go_roundw
    case rel=>exact⟨k+1,by omega,by go_num,aH ul.out ul.out.size ⟨rfl,rfl,rfl,aq _,λ_ _=>rfl⟩,λp h=>by
     rcases iX p k with h'|h'
     ·exact HP.out p h'
     ·obtain rfl:p=k:=by omega
      rw[Pu.out,yJ.out]⟩
    case measure=>simp[intOf];omega
  ·have cC:k=N:=by omega
   clear hp hb;go_wp2;go_ret;exact⟨⟨_,rfl,λ_=>cC ▸ HP.out,λ_=>rfl⟩,ul.out⟩
end
section
variable {w0:zh}{Ns:List bB}{X:Xs}{N h c i:Nat}
theorem mB.pos:∀{T:GT} {n j:Nat},mB w0 Ns T n->j<T.ga.n->∃sv rs,Ns[T.at j]?=za ⟨115,0,0,sv⟩/\nr 0 w0 sv rs/\∀c,tI rs c=T.ga.st j c
 |.s p f,n,j,⟨h,sv,rs,h1,h2,h3⟩,hj=>by
  have hj:j<1:=hj;obtain rfl:j=0:=by omega
  subst h;exact⟨sv,rs,h1,h2,λc=>by rw[h3];show f c=((0==0)&&f c);simp⟩
 |.q a b,n,j,⟨l,r,h1,h2,h3⟩,hj=>by
  rcases Ip a.ga.n j with h|⟨k,rfl⟩
  ·obtain⟨sv,rs,e1,e2,e3⟩:=h2.pos h;refine⟨sv,rs,?_,e2,λc=>?_⟩
   ·show Ns[(a.cK++b.cK).getD j 0]?=_;rw[wQ h];exact e1
   ·rw[e3];show _=(a.ga.st j c || (decide (a.ga.n<=j)&&b.ga.st (j-a.ga.n) c));simp[show ¬a.ga.n<=j from by omega]
  ·have hk:a.ga.n+k<a.ga.n+b.ga.n:=hj;obtain⟨sv,rs,e1,e2,e3⟩:=h3.pos (show k<b.ga.n by omega);refine⟨sv,rs,?_,e2,λc=>?_⟩
   ·show Ns[(a.cK++b.cK).getD (a.ga.n+k) 0]?=_;rw[Af];exact e1
   ·rw[e3];show _=(a.ga.st (a.ga.n+k) c || (decide (a.ga.n<=a.ga.n+k)&&b.ga.st (a.ga.n+k-a.ga.n) c));rw[show a.ga.st (a.ga.n+k) c=false from Fq (u:=λi=>a.ga.st i c) λi h=>a.ga.qI i c h,lV];simp
 |.o a b,n,j,⟨l,r,h1,h2,h3⟩,hj=>by
  rcases Ip a.ga.n j with h|⟨k,rfl⟩
  ·obtain⟨sv,rs,e1,e2,e3⟩:=h2.pos h;refine⟨sv,rs,?_,e2,λc=>?_⟩
   ·show Ns[(a.cK++b.cK).getD j 0]?=_;rw[wQ h];exact e1
   ·rw[e3];show _=(a.ga.st j c || (decide (a.ga.n<=j)&&b.ga.st (j-a.ga.n) c));simp[show ¬a.ga.n<=j from by omega]
  ·have hk:a.ga.n+k<a.ga.n+b.ga.n:=hj;obtain⟨sv,rs,e1,e2,e3⟩:=h3.pos (show k<b.ga.n by omega);refine⟨sv,rs,?_,e2,λc=>?_⟩
   ·show Ns[(a.cK++b.cK).getD (a.ga.n+k) 0]?=_;rw[Af];exact e1
   ·rw[e3];show _=(a.ga.st (a.ga.n+k) c || (decide (a.ga.n<=a.ga.n+k)&&b.ga.st (a.ga.n+k-a.ga.n) c));rw[show a.ga.st (a.ga.n+k) c=false from Fq (u:=λi=>a.ga.st i c) λi h=>a.ga.qI i c h,lV];simp
 |.st a,n,j,⟨l,h1,h2⟩,hj=>by
  obtain⟨sv,rs,e1,e2,e3⟩:=h2.pos (show j<a.ga.n from hj);exact⟨sv,rs,e1,e2,e3⟩
 |.e,n,j,h,hj=>absurd hj (by simp[GT.ga,GA.xB])
def Bq(X:Xs)(h c i:Nat):Prop:=∀(k:Nat) (y:nu×GT) (j:Nat),X[k]?=za y->j<y.2.ga.n->y.2.at j<i->y.2.ga.st j h=y.2.ga.st j c
theorem zr7(hL:Fv X N):Bq X h c N↔Ds (aF X) h c:=by
 constructor
 ·intro H k b i hb hi;rcases iX k X.length with hk|hk
  ·have hx:=bE hk;rw[Lh hx]at hb;cases hb;exact H k _ i hx hi (hL.lt k _ i hx hi)
  ·rw[znx hk]at hb;cases hb
 ·intro H k y j hy hj _;exact H k _ j (Lh hy) hj
theorem Bq.skip(H:Bq X h c i){x:bB}(hx:Ns[i]?=za x)(hk:x.k≠115)(hA:∀(k:Nat) (y:nu×GT) (j:Nat),X[k]?=za y->j<y.2.ga.n->∃sv,Ns[y.2.at j]?=za ⟨115,0,0,sv⟩):Bq X h c (i+1):=by
 intro k y j hy hj hi;rcases iX (y.2.at j) i with q|q
 ·exact H k y j hy hj q
 ·obtain⟨sv,e⟩:=hA k y j hy hj;rw[show y.2.at j=i by omega,hx]at e;cases e;exact absurd rfl hk
theorem Bq.next(H:Bq X h c i)(hL:Fv X N){k:Nat}{y:nu×GT}{j:Nat}(hy:X[k]?=za y)(hj:j<y.2.ga.n)(hi:y.2.at j=i)(he:y.2.ga.st j h=y.2.ga.st j c):Bq X h c (i+1):=by
 intro k' y' j' hy' hj' lJ;rcases iX (y'.2.at j') i with q|q
 ·exact H k' y' j' hy' hj' q
 ·obtain⟨rfl,rfl⟩:=hL.inj k k' y y' j j' hy hy' hj hj' (by omega);rw[hy]at hy';cases hy';exact he
theorem zu7(h:c<256):IntKind.u8.wrap (c:Int)=(c:Int):=by
 simp[IntKind.wrap,IntKind.bits,IntKind.signed];omega
def rb(bs:List dn)(c:Nat):List Int:=(List.range c).map λx=>(xy bs x:Int)
theorem Lb(bs:List dn)(c:Nat):(rb bs c).length=c:=by simp[rb]
theorem zkF(bs:List dn)(c:Nat):rb bs (c+1)=rb bs c++[(xy bs c:Int)]:=by simp[rb,List.range_succ]
def mb(bs:List dn)(c:Nat):List Nat:=aY (mg bs).length (mY bs) c
def jm(bs:List dn)(c:Nat):Nat->List Int:=λi=>if i=0 then rb bs c else if i=1 then dy (mb bs c) else []
structure pF(w0 w W:zh)(nv bv:zf)(Ns:List bB)(X:Xs)(v:Nat->zf)(l:Nat->List Int):Prop where
 box:W.heap[w.heap.size]?=za (zi #[nv,bv] 89 (0,0))
 sp:xp w0 W nv bv Ns X
 au:aI w.heap.size 2 W v l
 bl:zg w.heap.size w W
theorem pF.call{w W W':zh}{nv bv:zf}{v:Nat->zf}{l:Nat->List Int}(h:pF w0 w W nv bv Ns X v l)(hb:zg W.heap.size W W'):pF w0 w W' nv bv Ns X v l:=
 ⟨(hb.block _ (ay h.box)).trans h.box,h.sp.below hb,h.au.below hb,aH h.bl h.bl.size hb⟩
end
variable {w:zh}{base sz n:Nat}{v:zf}{xs:List zf}{f:Nat -> List zf}
theorem ub{w':zh}{e:zl}(h:w.ownsRow base e sz v n xs)(hb:∀b,v.ownBlock=za b->w'.heap[b]?=w.heap[b]?):w'.ownsRow base e sz v n xs:=by
 obtain⟨h1,h2⟩:=h;refine⟨h1,?_⟩;rcases h2 with h0|⟨g,cap,aZ,rfl,hg,hh,r⟩
 ·exact .inl h0
 ·exact .inr ⟨g,cap,aZ,rfl,hg,(hb g rfl).trans hh,r⟩
theorem dU{e:zl}(h:w.ownsRow base e sz v n xs){b:Nat}(hb:v.ownBlock=za b):base<=b/\b<w.heap.size:=by
 obtain⟨h1,h2⟩:=h;rcases h2 with ⟨rfl,_⟩|⟨g,cap,aZ,rfl,hg,hh,r⟩
 ·simp[Value.ownBlock]at hb
 ·simp[Value.ownBlock]at hb;subst hb;exact⟨hg,(lU.1 hh).1⟩
theorem wE{P:Program}{ops:Array Oper}{rest:List Oper}{o:Oper}{a:Act}{Q:Exit->Act->zh->Prop}{W:zh}(fQ:o.guard=zb)(s x:Operand)(t:zl)
  (ho:o.op=.call {callee:=.builtin .append,args:=#[s,x],argTypes:=#[t,t]}) (w:zh) (us:Array zf) (e:zl) (hW:W=w.alloc (zi us e)) (H:Nat) (hH:w.heap.size=H)
  (base:Nat) (i:TypeInfo) (z:zf) (sz bytes:Nat) (ht:P.underlying t=za (.slice e)) (hi:P.info? e=za i) (hz:i.zero=za z)
  (NR:i.size=sz) (AR:i.bytes=bytes) (Hu:z.cells.size=sz) (hsz:0<sz)
  (v:zf) (n:Nat) (xs:List zf) (hs:a.eval s=v) (bL:w.ownsRow base e sz v n xs)
  (hx:a.eval x=zc (za ⟨H,0,zb⟩) 1 1) (hl:us.size=sz) (h1:∀u∈us.toList,u.oneCell'=true) (hn:n<=2000000) (M8:bytes<=1000) (M3:base<=w.heap.size)
  (h:∀g' cap' w',w'.ownsRow base e sz (zc (za ⟨g',0,zb⟩) (n+1) cap') (n+1) (xs++us.toList)->w.grownBy w' v.ownBlock->(v.ownBlock=za g'\/w.heap.size<=g')->wpList P ops Q rest (a.put o.dst (zc (za ⟨g',0,zb⟩) (n+1) cap')) w'):
  wpList P ops Q (o::rest) a W:=by
 subst hW hH;refine wpList_append_lies _ fQ s x t ho base e i z sz bytes ht hi hz NR AR Hu hsz v n xs hs (bL.alloc _) ⟨w.heap.size,0,zb⟩ 1 1 us.toList hx (by simp[hl]) ?_ h1 (by omega) (by unfold maxLen;omega) ?_ (by simp;omega) (w.heap.size+1) (by simp) ?_
 ·intro j y hv;have e1:(⟨w.heap.size,0,zb⟩:Addr).add j=⟨w.heap.size,j,zb⟩:=by unfold Addr.add;split<;>simp_all
  rw[e1,iY _ _ _ _ _ _ (aJ w _)];rw[<-hv];simp
 ·have:(n+1)*bytes<=2000001*1000:=oU (by omega) M8;omega
 ·intro g' cap' w' Yf mR fV hlt;refine h g' cap' w' Yf ⟨mR.os,mR.tape,mR.output,cY (by simp) mR.size,λk hk hne=>?_⟩ ?_
  ·rw[mR.block k (by simp;omega) hne,Below.heap_alloc _ _ _ hk]
  ·rcases fV with fV|fV
   ·exact .inl fV
   ·exact .inr (by omega)
theorem TZ(h:∀k,(f k).length=sz)(n:Nat):((List.range n).flatMap f).length=n*sz:=by
 induction n with
 |zero=>simp
 |succ n ih=>rw[yE,List.flatMap_append,aQ,ih];simp[h,Nat.succ_mul]
theorem TY(h:∀k,(f k).length=sz)(n k j:Nat)(hk:k<n)(hj:j<sz):((List.range n).flatMap f)[k*sz+j]?=(f k)[j]?:=by
 induction n with
 |zero=>omega
 |succ n ih=>
  rw[yE,List.flatMap_append]
  by_cases e:k<n
  ·rw[vp,ih e];rw[TZ h];have:(k+1)*sz<=n*sz:=IM _ e;rw[Bp]at this;omega
  ·have e2:k=n:=by omega
   subst e2;rw[Ap (by rw[TZ h];omega),TZ h,lV];simp
theorem Ov{g:Nat->List zf}(n:Nat)(h:∀k,k<n->f k=g k):(List.range n).flatMap f=(List.range n).flatMap g:=by
 induction n with
 |zero=>rfl
 |succ n ih=>rw[yE,List.flatMap_append,List.flatMap_append,ih λk hk=>h k (by omega)];simp[h n (by omega)]
theorem KU(f:Nat->List zf)(n:Nat):(List.range (n+1)).flatMap f=(List.range n).flatMap f++f n:=by rw[yE,List.flatMap_append];simp
theorem KR(w:zh)(e:zl)(sz B H:Nat)(hB:B<=H)(hH:w.heap.size=H):(w.alloc (zi #[] e)).ownsRow B e sz (zc (za ⟨H,0,zb⟩) 0 0) 0 []:=by
 subst hH;exact⟨by simp,.inr ⟨w.heap.size,0,#[],rfl,hB,aJ _ _,by simp,by simp[maxLen],by simp,by simp⟩⟩
end Go.Proofs.YtfajjdgkiilhfaaGreatDoor
