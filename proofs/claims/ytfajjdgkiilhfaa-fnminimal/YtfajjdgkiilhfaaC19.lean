import Derived.Test.YtfajjdgkiilhfaaC18
import Derived.BigQuiet
import Derived.Deep.RegionHeld3
namespace Go.Proofs.Ytfajjdgkiilhfaa
open Proofs.Try
open Option renaming some->za,none->zh
open Value renaming slice->zi,int->zn,agg->zB
open Go renaming Value->zp,World->zx,Calls->zD,TypeId->zG
open RowKit renaming Below->zw
open Obj renaming cells->zy
set_option maxHeartbeats 4000000
set_option maxRecDepth 100000
open Go.RowKit
attribute [local go_sem ↓] wp_at_zero wp_at_succ
section
variable {w0 w W W':zx}{nv bv:zp}{Ns:List bO}{gm go N l:Nat}{m O s:Nat -> Bool}
structure mG(w0 w W:zx)(nv bv:zp)(Ns:List bO)(gm go N:Nat)(m O s:Nat->Bool)(l:Nat):Prop where
 bx:uC go w W nv bv (.int .u8 42) (zn .i64 l) (zn .i64 0) (zi zh 0 0)
 sh:∃O1,CW w0 W nv Ns gm go N m O1/\∀x,(O1 x || s x)=(O x || s x)
theorem mG.call(h:mG w0 w W nv bv Ns gm go N m O s l)(hb:zw W.heap.size W W'):mG w0 w W' nv bv Ns gm go N m O s l:=by
 obtain⟨h1,O1,h2,h3⟩:=h;exact⟨h1.call hb,O1,h2.call hb,h3⟩
theorem mG.ko(h:mG w0 w W nv bv Ns gm go N m O s l)(hg:go<w.heap.size)(t:lz (· = go) W W')(o:gZ W' go N (λx=>O x || s x)):mG w0 w W' nv bv Ns gm go N m O s l:=by
 obtain⟨h1,O1,h2,h3⟩:=h;exact⟨h1.ko hg t,_,h2.ko t o,λx=>by rw[Bool.or_assoc,Bool.or_self]⟩
theorem mG.full(h:mG w0 w W nv bv Ns gm go N m O s l):mG w0 w W nv bv Ns gm go N m O s l/\W.cell? ⟨w.heap.size,0,zh⟩=za nv/\W.cell? ⟨w.heap.size,1,zh⟩=za bv/\W.cell? ⟨w.heap.size+1,1,zh⟩=za (zn .i64 l):=
 ⟨h,(dM h.bx.x0).1,(dM h.bx.x0).2,(eu h.bx.x1).2.1⟩
theorem zrp(w0:zx)(a:GT)(ha:zT w0 a):zT w0 (.st a):=by
 intro Ns n w nv bv gm cm go co N c m O g hS hA hc;obtain⟨l,hx,hl⟩:=hA;obtain⟨g1,cap,rfl,hn,hg,c0,c1,c2,c3⟩:=hS.nx.node hx;have jF:=hS.nx.len;have hgo:go<w.heap.size:=az hS.ou;have fk:(0:Int)<=(n:Int):=by omega
 have cG:(n:Int)<(Ns.length:Int):=by omega
 obtain⟨W0,ay⟩:∃W0,(w.alloc (zy #[zi (za ⟨g1,0,zh⟩) Ns.length cap,bv] 80)).alloc (zy #[.int .u8 42,zn .i64 l,zn .i64 0,zi zh 0 0] 116)=W0:=⟨_,rfl⟩;have bY:=uC.start (go:=go) ay;have bF:=hS.call (Bx.start ay).bl;obtain⟨p0,p1⟩:=dM bY.x0;obtain⟨q0,q1,q2,q3⟩:=eu bY.x1;have bQ:=ag ay;have iO:=ag bY;have eF:=ag bF;have HC:=ag hc;clear hx hS bF ay bY hc
 go_enter func58,ntmps58
 go_upto_region 2 with fail
 rw[bQ.out];clear bQ c0 c1 c2 c3;have NI:=iO.out.call (Below.refl _ _).drew;have hSd:=eF.out.call (Below.refl _ _).drew;cases g
 ·obtain⟨v,hv⟩:∃v,ii m a=v:=⟨_,rfl⟩;obtain⟨s,hs⟩:∃s,dr m c a v=s:=⟨_,rfl⟩;have Ab:mG w0 w W0.drew (zi (za ⟨g1,0,zh⟩) Ns.length cap) bv Ns gm go N m O s l:=⟨NI,O,hSd,λ_=>rfl⟩;have cf:∀W,mG w0 w W (zi (za ⟨g1,0,zh⟩) Ns.length cap) bv Ns gm go N m O s l->zD prog 56 #[zB #[zi (za ⟨g1,0,zh⟩) Ns.length cap,bv],zn .i64 l,zi (za ⟨gm,0,zh⟩) N cm] W λe W2=>e=.returned (.bool v)/\zw W.heap.size W W2:=λW h=>by
   obtain⟨O1,h1,-⟩:=h.sh;rw[<-hv];exact DM w0 a Ns l W _ bv gm cm N m h1.nx hl h1.ma h1.le
  have ca:∀W,mG w0 w W (zi (za ⟨g1,0,zh⟩) Ns.length cap) bv Ns gm go N m O s l->zD prog 58 #[zB #[zi (za ⟨g1,0,zh⟩) Ns.length cap,bv],zn .i64 l,.bool v,zi (za ⟨gm,0,zh⟩) N cm,.int .u8 c,zi (za ⟨go,0,zh⟩) N co] W λe W2=>e=.returned (.tuple #[])/\gZ W2 go N (λx=>O x || s x)/\lz (· = go) W W2:=λW h=>by
   obtain⟨O1,h1,h2⟩:=h.sh;refine(ha Ns l W _ bv gm cm go co N c m O1 v h1 hl HC.out).mono λe W2 ⟨k1,k2,k3⟩=>⟨k1,?_,k3⟩
   rw[hs,show (λx=>O1 x || s x)=λx=>O x || s x from funext h2]at k2;exact k2
  have hz:∀x,dr m c (.st a) false x=s x:=λx=>by show dr m c a (false || ii m a) x=s x;rw[hv,Bool.false_or,hs]
  have HZ:=ag hz;have eO:=ag Ab;clear hl hv hs NI hSd hz Ab iO eF;have e0:=p0;have e1:=p1;have e2:=q1
  go_upto_region 14 with fail
  go_region_held3 (λw'=>mG w0 w w' (zi (za ⟨g1,0,zh⟩) Ns.length cap) bv Ns gm go N m O s l/\w'.cell? ⟨w.heap.size,0,zh⟩=za (zi (za ⟨g1,0,zh⟩) Ns.length cap)/\w'.cell? ⟨w.heap.size,1,zh⟩=za bv/\w'.cell? ⟨w.heap.size+1,1,zh⟩=za (zn .i64 l))
   ((first|exact mG.full eO.out|exact mG.full (mG.call (‹mG w0 w _ _ _ _ _ _ _ _ _ _ _/\_›).1 b1)|exact mG.full (mG.ko (‹mG w0 w _ _ _ _ _ _ _ _ _ _ _/\_›).1 hgo t9 o9)|go_keep))
   ((first|(go_at_call 56;refine(cf _ (by first|exact eO.out|exact(‹mG w0 w _ _ _ _ _ _ _ _ _ _ _/\_›).1)).mono ?_;rintro e W1 ⟨rfl,b1⟩)|(go_at_call 58;refine(ca _ (by first|exact eO.out|exact(‹mG w0 w _ _ _ _ _ _ _ _ _ _ _/\_›).1)).mono ?_;rintro e W9 ⟨rfl,o9,t9⟩)))
  all_goals
   have lK:=‹mG w0 w _ _ _ _ _ _ _ _ _ _ _/\_›;go_wp2;refine bw (v:=.tuple #[]) (by simp[results,results58,go_sem]) rfl ?_;refine⟨rfl,?_,lK.1.bx.t⟩;rw[show (λx=>O x || dr m c (.st a) false x)=λx=>O x || s x from funext λx=>by rw[HZ.out x]];exact o9
 ·have ca:∀W,zw W0.heap.size W0 W->zD prog 58 #[zB #[zi (za ⟨g1,0,zh⟩) Ns.length cap,bv],zn .i64 l,.bool true,zi (za ⟨gm,0,zh⟩) N cm,.int .u8 c,zi (za ⟨go,0,zh⟩) N co] W λe W2=>e=.returned (.tuple #[])/\gZ W2 go N (λx=>O x || dr m c a true x)/\lz (· = go) w W2:=λW hb=>
   (ha Ns l W _ bv gm cm go co N c m O true (eF.out.call hb) hl HC.out).mono λe W2 ⟨h1,h2,h3⟩=>⟨h1,h2,((iO.out.call hb).ko hgo h3).t⟩
  have du:prog.follows .mixedOrders=true:=by kernel_rfl
  clear hl
  go_upto_region 14 with fail
  refine zhL 14 du (by kernel_rfl) rfl rfl rfl ?_;intro os aX;simp only[gG,kQ]at aX;subst aX
  repeat (go_big_quiet_step (fail))
  refine wpQuiet_nil ?_;intro w' hw' K hK;obtain⟨nq,rfl⟩:=hw';have cq:=(ca (W0.drewN nq) ⟨rfl,rfl,rfl,ax _,λ_ _=>rfl⟩).mono (R':=λe W2=>∃v,e=.returned v/\v=.tuple #[]/\gZ W2 go N (λx=>O x || dr m c a true x)/\lz (· = go) w W2) λe W2 ⟨h1,h2⟩=>⟨_,h1,rfl,h2⟩
  refine zjl 58 #[.tmp 85,.tmp 87,.tmp 95,.tmp 96,.tmp 97,.tmp 98] #[80,3,4,37,5,37] (by rfl) #[zB #[zi (za ⟨g1,0,zh⟩) Ns.length cap,bv],zn .i64 l,.bool true,zi (za ⟨gm,0,zh⟩) N cm,.int .u8 c,zi (za ⟨go,0,zh⟩) N co] (by simp[Act.eval]) _ (znu _ _) cq ?_;rintro v W9 ⟨rfl,o9,t9⟩;refine hK _ _ ?_;go_wp2;refine bw (v:=.tuple #[]) (by simp[results,results58,go_sem]) rfl ?_;refine⟨rfl,?_,t9⟩;rw[show (λx=>O x || dr m c (.st a) true x)=λx=>O x || dr m c a true x from rfl];exact o9
theorem Ma(w0:zx):∀T:GT,zT w0 T
 |.s p f=>zsV w0 p f
 |.q a b=>zsU w0 a b (Ma w0 a) (Ma w0 b)
 |.o a b=>zsT w0 a b (Ma w0 a) (Ma w0 b)
 |.st a=>zrp w0 a (Ma w0 a)
 |.e=>zsS w0
end
section
variable {fst:Bool}{c n:Nat}
structure dm where
 rule:Nat
 bol:Bool
 eol:Bool
 ga:GA
abbrev St:=Nat->Nat->Bool
def fM:St:=λ_ _=>false
def lh(bs:List dm)(fst:Bool)(S:St)(c:Nat):St:=λk j=>match bs[k]? with
 |none=>false
 |some b=>b.ga.st j c&&(((fst || !b.bol)&&b.ga.fst j) || (List.range b.ga.n).any λi=>S k i&&b.ga.ij i j)
def Av(b:dm)(k:Nat)(fst:Bool)(S:St):Bool:=((List.range b.ga.n).any λi=>S k i&&b.ga.kM i) || ((fst || !b.bol)&&b.ga.fy)
def ic(bs:List dm)(fst:Bool)(S:St)(we:Bool):Nat->Int
 |0=>-1
 |k+1=>match bs[k]? with
  |none=>ic bs fst S we k
  |some b=>if (b.eol && !we)=true then ic bs fst S we k else if Av b k fst S=true/\(ic bs fst S we k<0\/(b.rule:Int)<ic bs fst S we k) then b.rule else ic bs fst S we k
def zW(bs:List dm)(fst:Bool)(S:St)(we:Bool):Int:=ic bs fst S we bs.length
def zvE(bs:List dm)(fst:Bool)(S:St)(we:Bool)(K:Nat)(a:Int):Prop:=
 (a=-1\/∃k b,k<K/\bs[k]?=za b/\a=b.rule/\(b.eol && !we)=false/\Av b k fst S=true)/\
 ∀k b,k<K->bs[k]?=za b->(b.eol && !we)=false->Av b k fst S=true->0<=a/\a<=b.rule
theorem zrE(bs:List dm)(fst:Bool)(S:St)(we:Bool):∀K,zvE bs fst S we K (ic bs fst S we K)
 |0=>⟨.inl rfl,λk b h=>absurd h (by omega)⟩
 |K+1=>by
  obtain⟨h1,h2⟩:=zrE bs fst S we K;have hs:ic bs fst S we (K+1)=match bs[K]? with
   |none=>ic bs fst S we K
   |some b=>if (b.eol && !we)=true then ic bs fst S we K else if Av b K fst S=true/\(ic bs fst S we K<0\/(b.rule:Int)<ic bs fst S we K) then b.rule else ic bs fst S we K:=rfl
  have up:(ic bs fst S we K=-1\/∃k b,k<K/\bs[k]?=za b/\ic bs fst S we K=b.rule/\(b.eol && !we)=false/\Av b k fst S=true)->(ic bs fst S we K=-1\/∃k b,k<K+1/\bs[k]?=za b/\ic bs fst S we K=b.rule/\(b.eol && !we)=false/\Av b k fst S=true):=λh=>h.imp id λ⟨k,b,e,r⟩=>⟨k,b,by omega,r⟩
  rw[hs];cases hb:bs[K]? with
  |none=>
   refine⟨up h1,λk b hk e1 e2 e3=>?_⟩;rcases jP k K with q|q
   ·exact h2 k b q e1 e2 e3
   ·obtain rfl:k=K:=by omega
    rw[hb]at e1;cases e1
  |some b=>
   show zvE bs fst S we (K+1) (if (b.eol && !we)=true then ic bs fst S we K else if Av b K fst S=true/\(ic bs fst S we K<0\/(b.rule:Int)<ic bs fst S we K) then b.rule else ic bs fst S we K);split
   ·rename_i he
    refine⟨up h1,λk b' hk e1 e2 e3=>?_⟩;rcases jP k K with q|q
    ·exact h2 k b' q e1 e2 e3
    ·obtain rfl:k=K:=by omega
     rw[hb]at e1;cases e1;rw[he]at e2;cases e2
   ·rename_i he
    split
    ·rename_i hh
     refine⟨.inr ⟨K,b,by omega,hb,rfl,by simpa using he,hh.1⟩,λk b' hk e1 e2 e3=>?_⟩;rcases jP k K with q|q
     ·have:=h2 k b' q e1 e2 e3;refine⟨by omega,?_⟩;rcases hh.2 with h|h<;>omega
     ·obtain rfl:k=K:=by omega
      rw[hb]at e1;cases e1;exact⟨by omega,Int.le_refl _⟩
    ·rename_i hh
     refine⟨up h1,λk b' hk e1 e2 e3=>?_⟩;rcases jP k K with q|q
     ·exact h2 k b' q e1 e2 e3
     ·obtain rfl:k=K:=by omega
      rw[hb]at e1;cases e1;have:=not_and.1 hh e3;omega
theorem zrD(bs:List dm)(fst:Bool)(S:St)(we:Bool)(hr:∀(k:Nat) (b:dm),bs[k]?=za b->b.rule<=99):-1<=zW bs fst S we/\zW bs fst S we<=99:=by
 rcases(zrE bs fst S we bs.length).1 with e|⟨k,b,h1,h2,h3,-⟩
 ·unfold zW;omega
 ·have:=hr k b h2;unfold zW;omega
def ml(bs:List dm):List (Nat->Bool):=bs.flatMap λb=>(List.range b.ga.n).map b.ga.st
def Rs(b:Bool):Nat:=if b=true then 1 else 0
theorem zmf{a b:Bool}:Rs a=Rs b↔a=b:=by cases a<;>cases b<;>simp[Rs]
def mY(bs:List dm)(k c:Nat):Nat:=Rs ((ml bs).getD k (λ_=>false) c)
def Er(bs:List dm)(h c:Nat):Prop:=∀(k:Nat) (b:dm) (i:Nat),bs[k]?=za b->i<b.ga.n->b.ga.st i h=b.ga.st i c
theorem zmd(bs:List dm)(h c:Nat):je (ml bs).length (mY bs) h c=true↔Er bs h c:=by
 rw[D7];have e:(∀k,k<(ml bs).length->mY bs k h=mY bs k c)↔∀f∈ml bs,f h=f c:=by
  constructor
  ·intro H f hf;obtain⟨k,hk,rfl⟩:=tu.1 hf;have:=H k hk;unfold mY at this;rw[zmf]at this
   simpa [List.getD,hk]using this
  ·intro H k hk;unfold mY;rw[zmf];have:=H ((ml bs)[k]) (gy hk)
   simpa [List.getD,hk]using this
 rw[e];unfold ml Er;simp only[List.mem_flatMap,rS,mB];constructor
 ·intro H k b i hb hi;exact H _ ⟨b,List.mem_of_getElem? hb,i,hi,rfl⟩
 ·rintro H f ⟨b,hb,i,hi,rfl⟩;obtain⟨k,hk,rfl⟩:=tu.1 hb;exact H k _ i (bE hk) hi
def iI(bs:List dm):List Nat:=aM (ml bs).length (mY bs) 256
def yk(bs:List dm)(c:Nat):Nat:=da (ml bs).length (mY bs) c
open Classical in
noncomputable def p7 (L:List St) (S:St):Nat:=1+L.tail.findIdx λT=>decide (T=S)
noncomputable def vr (bs:List dm) (fst:Bool) (S:St) (st:List St×List Nat) (c:Nat):List St×List Nat:=
 (if p7 st.1 (lh bs fst S c)<st.1.length then st.1 else st.1++[lh bs fst S c],st.2++[p7 st.1 (lh bs fst S c)])
noncomputable def qO (bs:List dm) (fst:Bool) (S:St) (st:List St×List Nat) (m:Nat):List St×List Nat:=((iI bs).take m).foldl (vr bs fst S) st
noncomputable def dI (bs:List dm):Nat->List St×List Nat
 |0=>([fM],[])
 |k+1=>qO bs (k==0) ((dI bs k).1.getD k fM) (dI bs k) (iI bs).length
theorem TI(bs:List dm)(fst:Bool)(S:St)(st:List St×List Nat){m:Nat}(h:m<(iI bs).length):qO bs fst S st (m+1)=vr bs fst S (qO bs fst S st m) ((iI bs).getD m 0):=by
 unfold qO;rw[List.take_add_one,bE h,Option.toList_some,List.foldl_append];simp[List.getD,h]
theorem zp1{bs:List dm}{S:St}{st:List St×List Nat}:st.1.length<=(vr bs fst S st c).1.length/\(vr bs fst S st c).1.length<=st.1.length+1:=by
 have e:(vr bs fst S st c).1=if p7 st.1 (lh bs fst S c)<st.1.length then st.1 else st.1++[lh bs fst S c]:=rfl
 rw[e];split
 ·exact⟨ax _,by omega⟩
 ·rw[a6];simp
theorem zra{bs:List dm}{S:St}{st:List St×List Nat}(P:List St×List Nat->Prop)(h0:P st)(hs:∀x c,P x->P (vr bs fst S x c)):∀m,P (qO bs fst S st m):=by
 intro m;unfold qO;generalize (iI bs).take m=l;clear m
 induction l generalizing st with
 |nil=>exact h0
 |cons a l ih=>exact ih (hs _ _ h0)
theorem zte{bs:List dm}{S:St}{st:List St×List Nat}:∃l,(vr bs fst S st c).1=st.1++l:=by
 have e:(vr bs fst S st c).1=if p7 st.1 (lh bs fst S c)<st.1.length then st.1 else st.1++[lh bs fst S c]:=rfl
 rw[e];split
 ·exact⟨[],by simp⟩
 ·exact⟨_,rfl⟩
theorem zmN(bs:List dm)(fst:Bool)(S:St)(st:List St×List Nat)(m:Nat):∃l,(qO bs fst S st m).1=st.1++l:=
 zra (λx=>∃l,x.1=st.1++l) ⟨[],by simp⟩ (λx c ⟨l,h⟩=>by
  obtain⟨l2,h2⟩:=zte (bs:=bs) (fst:=fst) (S:=S) (st:=x) (c:=c);exact⟨l++l2,by rw[h2,h,jA]⟩) m
theorem zmM(bs:List dm)(fst:Bool)(S:St)(st:List St×List Nat)(m:Nat):st.1.length<=(qO bs fst S st m).1.length:=by
 obtain⟨l,h⟩:=zmN bs fst S st m;rw[h,a6];omega
theorem zkE(bs:List dm)(fst:Bool)(S:St)(st:List St×List Nat):∀m,m<=(iI bs).length->(qO bs fst S st m).1.length<=st.1.length+m
 |0,_=>ax _
 |m+1,h=>by
  rw[TI bs fst S st (by omega)];have:=zkE bs fst S st m (by omega);have:=(zp1 (bs:=bs) (fst:=fst) (S:=S) (st:=qO bs fst S st m) (c:=(iI bs).getD m 0)).2;omega
theorem Ul(bs:List dm)(k:Nat):dI bs (k+1)=qO bs (k==0) ((dI bs k).1.getD k fM) (dI bs k) (iI bs).length:=rfl
theorem zlY(bs:List dm)(k:Nat):(dI bs k).1.length<=(dI bs (k+1)).1.length:=by rw[Ul];exact zmM _ _ _ _ _
theorem zlZ(bs:List dm):∀k,0<(dI bs k).1.length
 |0=>by simp[dI]
 |k+1=>fR (zlZ bs k) (zlY bs k)
structure zA(bs:List dm)(most K:Nat):Prop where
 len:(dI bs K).1.length=K
 go:∀k,k<K->k<(dI bs k).1.length/\(dI bs (k+1)).1.length<=most
structure Km(bs:List dm)(most k0:Nat):Prop where
 go:∀k,k<k0->k<(dI bs k).1.length/\(dI bs (k+1)).1.length<=most
 lt:k0<(dI bs k0).1.length
 big:most<(dI bs (k0+1)).1.length
theorem zrn(bs:List dm)(most:Nat):(∃K,zA bs most K)\/∃k0,Km bs most k0:=by
 have step:∀n,(∃K,zA bs most K)\/(∃k0,Km bs most k0)\/∀k,k<n->k<(dI bs k).1.length/\(dI bs (k+1)).1.length<=most:=by
  intro n
  induction n with
  |zero=>exact .inr (.inr λk h=>absurd h (by omega))
  |succ n ih=>
   rcases ih with h|h|h
   ·exact .inl h
   ·exact .inr (.inl h)
   ·have h0:n<=(dI bs n).1.length:=by
     cases n with
     |zero=>omega
     |succ n=>
      have:=(h n (by omega)).1;have:=zlY bs n;omega
    rcases jP n (dI bs n).1.length with a|a
    ·rcases jP most (dI bs (n+1)).1.length with b|b
     ·exact .inr (.inl ⟨n,h,a,b⟩)
     ·refine .inr (.inr λk hk=>?_);rcases jP k n with c|c
      ·exact h k c
      ·obtain rfl:k=n:=by omega
       exact⟨a,b⟩
    ·exact .inl ⟨n,by omega,h⟩
 rcases step (most+2) with h|h|h
 ·exact .inl h
 ·exact .inr h
 ·have h1:=h (most+1) (by omega);have h2:=h most (by omega);omega
open Classical in
theorem ztC(L:List St)(S:St)(h:0<L.length):1<=p7 L S/\p7 L S<=L.length:=by
 unfold p7;have:=JR (p:=λT=>decide (T=S)) (xs:=L.tail);rw[List.length_tail]at this;exact⟨by omega,by omega⟩
structure CV(st:List St×List Nat)(n:Nat):Prop where
 pos:0<st.1.length
 nl:st.2.length=n
 lt:∀x∈st.2,x<st.1.length
theorem CV.upd{bs:List dm}{S:St}{st:List St×List Nat}(h:CV st n)(c:Nat):CV (vr bs fst S st c) (n+1):=by
 have h1:=(zp1 (bs:=bs) (fst:=fst) (S:=S) (st:=st) (c:=c)).1;refine⟨fR h.pos h1,?_,λx hx=>?_⟩
 ·show (st.2++[_]).length=_;rw[a6,h.nl];rfl
 ·have hx:x∈st.2++[p7 st.1 (lh bs fst S c)]:=hx;rw[gH,vF]at hx;rcases hx with hx|rfl
  ·exact fR (h.lt x hx) h1
  ·have hl:=(ztC st.1 (lh bs fst S c) h.pos).2;have e:(vr bs fst S st c).1=if p7 st.1 (lh bs fst S c)<st.1.length then st.1 else st.1++[lh bs fst S c]:=rfl
   rw[e];split
   ·assumption
   ·rw[a6,JO];omega
theorem CV.part{bs:List dm}{S:St}{st:List St×List Nat}(h:CV st n):∀m,m<=(iI bs).length->CV (qO bs fst S st m) (n+m)
 |0,_=>h
 |m+1,hm=>by
  rw[TI bs fst S st (by omega)];exact(CV.part h m (by omega)).upd _
theorem Ql(bs:List dm):∀k,CV (dI bs k) (k*(iI bs).length)
 |0=>⟨by simp[dI],by simp[dI],λx h=>by simp[dI]at h⟩
 |k+1=>by
  rw[Ul,Eo];exact(Ql bs k).part _ (ax _)
noncomputable def ie (bs:List dm) (K:Nat):aE where
 aD:=(List.range 256).map λc=>(yk bs c:Int)
 width:=(iI bs).length
 next:=(dI bs K).2.map λ(x:Nat)=>(x:Int)
 tag:=(List.range K).map λk=>zW bs (k==0) ((dI bs K).1.getD k fM) false
 fin:=(List.range K).map λk=>zW bs (k==0) ((dI bs K).1.getD k fM) true
end
section
variable {k N c:Nat}{m:Nat -> Bool}{S:St}{fst:Bool}
structure nw where
 rule:Nat
 bol:Bool
 eol:Bool
 jc:Nat
abbrev Xs:=List (nw×GT)
def aK(X:Xs):List dm:=X.map λx=>⟨x.1.rule,x.1.bol,x.1.eol,x.2.ga⟩
theorem Mp{X:Xs}{x:nw×GT}(h:X[k]?=za x):(aK X)[k]?=za ⟨x.1.rule,x.1.bol,x.1.eol,x.2.ga⟩:=by simp[aK,h]
theorem zmg{X:Xs}(h:X.length<=k):(aK X)[k]?=zh:=by simp[aK,h]
theorem zr9(X:Xs):(aK X).length=X.length:=by simp[aK]
structure Gm(X:Xs)(N:Nat):Prop where
 inj:∀(k k':Nat) (x x':nw×GT) (i i':Nat),X[k]?=za x->X[k']?=za x'->i<x.2.ga.n->i'<x'.2.ga.n->x.2.at i=x'.2.at i'->k=k'/\i=i'
 lt:∀(k:Nat) (x:nw×GT) (i:Nat),X[k]?=za x->i<x.2.ga.n->x.2.at i<N
def InM(X:Xs)(S:St)(p:Nat):Prop:=∃(k:Nat) (x:nw×GT) (i:Nat),X[k]?=za x/\i<x.2.ga.n/\p=x.2.at i/\S k i=true
def vS(X:Xs)(N:Nat)(m:Nat->Bool)(S:St):Prop:=∀p,p<N->(m p=true↔InM X S p)
def He(X:Xs)(S:St):Prop:=∀k i,S k i=true->∃x,X[k]?=za x/\i<x.2.ga.n
theorem zpU(X:Xs):He X fM:=λk i h=>by simp[fM]at h
theorem zqV(X:Xs)(N:Nat):vS X N (λ_=>false) fM:=λp _=>⟨λh=>absurd h Bool.false_ne_true,λ⟨k,x,i,_,_,_,h⟩=>by simp[fM]at h⟩
theorem zpV(X:Xs)(fst:Bool)(S:St)(c:Nat):He X (lh (aK X) fst S c):=λk j h=>by
 unfold lh at h;rcases jP k X.length with hk|hk
 ·have hx:=bE hk;rw[Mp hx]at h;simp only[fQ]at h;exact⟨_,hx,GA.qH _ _ _ h.1⟩
 ·rw[zmg hk]at h;cases h
theorem vS.at{X:Xs}(h:vS X N m S)(hL:Gm X N){k i:Nat}{x:nw×GT}(hx:X[k]?=za x)(hi:i<x.2.ga.n):m (x.2.at i)=true↔S k i=true:=by
 rw[h _ (hL.lt k x i hx hi)];constructor
 ·rintro ⟨k',x',i',h1,h2,h3,h4⟩;obtain⟨rfl,rfl⟩:=hL.inj k k' x x' i i' hx h1 hi h2 h3;exact h4
 ·intro h4;exact⟨k,x,i,hx,hi,rfl,h4⟩
theorem zro{X:Xs}{m':Nat->Bool}{S':St}(h:vS X N m S)(h':vS X N m' S')(hL:Gm X N)(hS:He X S)(KY:He X S'):(∀p,p<N->m p=m' p)↔S=S':=by
 constructor
 ·intro he;funext k i;rw[Ej];constructor
  ·intro hs;obtain⟨x,hx,hi⟩:=hS k i hs;rw[<-h'.at hL hx hi,<-he _ (hL.lt k x i hx hi),h.at hL hx hi];exact hs
  ·intro hs;obtain⟨x,hx,hi⟩:=KY k i hs;rw[<-h.at hL hx hi,he _ (hL.lt k x i hx hi),h'.at hL hx hi];exact hs
 ·rintro rfl p hp;rw[Ej,h p hp,h' p hp]
theorem zpS{X:Xs}{j:Nat}{x:nw×GT}(hx:X[k]?=za x):lh (aK X) fst S c k j=true↔x.2.ga.st j c=true/\(((fst || !x.1.bol)=true/\x.2.ga.fst j=true)\/∃i,i<x.2.ga.n/\S k i=true/\x.2.ga.ij i j=true):=by
 unfold lh;rw[Mp hx];simp only[fQ,np,List.any_eq_true,mB]
def qa(X:Xs)(fst:Bool)(m:Nat->Bool)(c:Nat):Nat->Nat->Bool
 |0,_=>false
 |K+1,p=>qa X fst m c K p || match X[K]? with
  |none=>false
  |some x=>dr m c x.2 (fst || !x.1.bol) p
theorem zpf{X:Xs}{p:Nat}:∀K,qa X fst m c K p=true↔∃(k:Nat) (x:nw×GT),k<K/\X[k]?=za x/\dr m c x.2 (fst || !x.1.bol) p=true
 |0=>⟨λh=>absurd h (by simp[qa]),λ⟨k,_,h,_⟩=>absurd h (by omega)⟩
 |K+1=>by
  show (qa X fst m c K p || match X[K]? with|none=>false|some x=>dr m c x.2 (fst || !x.1.bol) p)=true↔_;rw[np,zpf K];constructor
  ·rintro (⟨k,x,h1,h2,h3⟩|h)
   ·exact⟨k,x,by omega,h2,h3⟩
   ·cases hx:X[K]? with
    |none=>rw[hx]at h;cases h
    |some x=>rw[hx]at h;exact⟨K,x,by omega,hx,h⟩
  ·rintro ⟨k,x,h1,h2,h3⟩;rcases jP k K with h|h
   ·exact .inl ⟨k,x,h,h2,h3⟩
   ·obtain rfl:k=K:=by omega
    right;rw[h2];exact h3
theorem ztD{X:Xs}(h:vS X N m S)(hL:Gm X N)(fst:Bool)(c:Nat):vS X N (qa X fst m c X.length) (lh (aK X) fst S c):=by
 intro p hp;rw[zpf];constructor
 ·rintro ⟨k,x,hk,hx,hs⟩;rw[JH]at hs;obtain⟨j,h1,h2,h3⟩:=hs;refine⟨k,x,j,hx,x.2.ga.qH j c h1,h2,(zpS hx).2 ⟨h1,h3.imp id ?_⟩⟩;rintro ⟨i,h4,h5⟩;have hi:=(x.2.ga.tM i j h5).1;exact⟨i,hi,(h.at hL hx hi).1 h4,h5⟩
 ·rintro ⟨k,x,j,hx,hj,rfl,hs⟩;rw[zpS hx]at hs;refine⟨k,x,(n5.1 hx).1,hx,?_⟩;rw[JH];refine⟨j,hs.1,rfl,hs.2.imp id ?_⟩;rintro ⟨i,hi,h4,h5⟩;exact⟨i,(h.at hL hx hi).2 h4,h5⟩
theorem ztv{X:Xs}(h:vS X N m S)(hL:Gm X N)(fst:Bool){k:Nat}{x:nw×GT}(hx:X[k]?=za x):Av ⟨x.1.rule,x.1.bol,x.1.eol,x.2.ga⟩ k fst S=(ii m x.2 || ((fst || !x.1.bol)&&x.2.ga.fy)):=by
 unfold Av
 congr 1
 rw[Ej,Ck];simp only[List.any_eq_true,mB,fQ];constructor
 ·rintro ⟨i,hi,h1,h2⟩;exact⟨i,h2,(h.at hL hx hi).2 h1⟩
 ·rintro ⟨i,h1,h2⟩;have hi:=x.2.ga.ug i h1;exact⟨i,hi,(h.at hL hx hi).1 h2,h1⟩
theorem zn6{X:Xs}{we:Bool}{x:nw×GT}(hx:X[k]?=za x):ic (aK X) fst S we (k+1)=if (x.1.eol && !we)=true then ic (aK X) fst S we k else if Av ⟨x.1.rule,x.1.bol,x.1.eol,x.2.ga⟩ k fst S=true/\(ic (aK X) fst S we k<0\/(x.1.rule:Int)<ic (aK X) fst S we k) then x.1.rule else ic (aK X) fst S we k:=by
 show (match (aK X)[k]? with
  |none=>ic (aK X) fst S we k
  |some b=>if (b.eol && !we)=true then ic (aK X) fst S we k else if Av b k fst S=true/\(ic (aK X) fst S we k<0\/(b.rule:Int)<ic (aK X) fst S we k) then (b.rule:Int) else ic (aK X) fst S we k)=_
 rw[Mp hx]
end
section
variable {W W' w0 w:zx}{v nv bv:zp}{X:Xs}{Ns:List bO}{go:Nat}
def b4(b:nw):List zp:=[zn .i64 b.rule,.bool b.bol,.bool b.eol,zn .i64 b.jc]
structure zV(W:zx)(v:zp)(X:Xs):Prop where
 len:X.length<=8589934592
 at_:∃ao cap,v=.slice ao X.length cap/\(0<X.length->∃g,ao=za ⟨g,0,zh⟩/\g<W.heap.size/\∀i x,X[i]?=za x->∀j u,(b4 x.1)[j]?=za u->W.cell? ⟨g,i*4+j,zh⟩=za u)
theorem zV.below(h:zV W v X)(hb:zw W.heap.size W W'):zV W' v X:=by
 obtain⟨hl,ao,cap,rfl,h⟩:=h;refine⟨hl,ao,cap,rfl,λh0=>?_⟩;obtain⟨g,rfl,hg,hc⟩:=h h0;exact⟨g,rfl,fR hg hb.size,λi x hx j u hu=>by rw[World.cell?_of_block (w:=W) (hb.block g hg)];exact hc i x hx j u hu⟩
theorem zV.row(h:zV W v X){k:Nat}{x:nw×GT}(hx:X[k]?=za x):∃g cap,v=zi (za ⟨g,0,zh⟩) X.length cap/\g<W.heap.size/\
  W.cell? ⟨g,k*4,zh⟩=za (zn .i64 x.1.rule)/\W.cell? ⟨g,k*4+1,zh⟩=za (.bool x.1.bol)/\W.cell? ⟨g,k*4+2,zh⟩=za (.bool x.1.eol)/\W.cell? ⟨g,k*4+3,zh⟩=za (zn .i64 x.1.jc):=by
 obtain⟨hl,ao,cap,rfl,h⟩:=h;have hn:=(n5.1 hx).1;obtain⟨g,rfl,hg,hc⟩:=h (by omega);have:=hc k x hx;exact⟨g,cap,rfl,hg,this 0 _ rfl,this 1 _ rfl,this 2 _ rfl,this 3 _ rfl⟩
def zvD(Ns:List bO)(X:Xs):Prop:=∀(i:Nat) (x:bO),Ns[i]?=za x->(x.k=115/\∃(k:Nat) (y:nw×GT) (j:Nat),X[k]?=za y/\j<y.2.ga.n/\y.2.at j=i)\/(x.k≠115/\x.k<256/\x.sv=zi zh 0 0)
structure xY(w0 W:zx)(nv bv:zp)(Ns:List bO)(X:Xs):Prop where
 nx:uL W nv Ns
 bx:zV W bv X
 tr:∀(k:Nat) (x:nw×GT),X[k]?=za x->mC w0 Ns x.2 x.1.jc
 cR:Gm X Ns.length
 bl:zw w0.heap.size w0 W
 al:zvD Ns X
theorem xY.below(h:xY w0 W nv bv Ns X)(hb:zw W.heap.size W W'):xY w0 W' nv bv Ns X:=
 ⟨h.nx.below hb,h.bx.below hb,h.tr,h.cR,bi h.bl h.bl.size hb,h.al⟩
theorem mC.lt{T:GT}{n:Nat}(h:mC w0 Ns T n):n<Ns.length:=by
 cases T with
 |s p f=>obtain⟨_,_,_,h,_⟩:=h;exact(n5.1 h).1
 |q a b=>obtain⟨_,_,h,_⟩:=h;exact(n5.1 h).1
 |o a b=>obtain⟨_,_,h,_⟩:=h;exact(n5.1 h).1
 |st a=>obtain⟨_,h,_⟩:=h;exact(n5.1 h).1
 |e=>have h:Ns[n]?=_:=h;exact(n5.1 h).1
theorem uL.WE(h:uL W v Ns)(h0:0<Ns.length):∀g n cap,v=zi (za ⟨g,0,zh⟩) n cap->g<W.heap.size:=by
 obtain⟨hl,ao,cap,rfl,h⟩:=h;obtain⟨g,rfl,hg,-⟩:=h h0;intro g' n c e;cases e;exact hg
theorem zV.WE(h:zV W v X)(h0:0<X.length):∀g n cap,v=zi (za ⟨g,0,zh⟩) n cap->g<W.heap.size:=by
 obtain⟨hl,ao,cap,rfl,h⟩:=h;obtain⟨g,rfl,hg,-⟩:=h h0;intro g' n c e;cases e;exact hg
theorem zV.ko(h:zV w v X)(t:lz (· = go) w W)(hg:0<X.length->∀g n cap,v=zi (za ⟨g,0,zh⟩) n cap->g≠go):zV W v X:=by
 obtain⟨hl,ao,cap,rfl,h⟩:=h;refine⟨hl,ao,cap,rfl,λh0=>?_⟩;obtain⟨g,rfl,jU,hc⟩:=h h0;exact⟨g,rfl,fR jU t.size,λi x hx j u hu=>by rw[World.cell?_of_block (w:=w) (t.same g jU (hg h0 g _ _ rfl))];exact hc i x hx j u hu⟩
theorem zhb(N:Nat):(List.replicate N (Value.bool false)).toArray=BC N (λ_=>false):=by
 unfold BC
 congr 1
 apply tz
 intro j;simp[List.getElem?_replicate]
 by_cases h:j<N<;>simp[h]
structure JT(w0 w W:zx)(nv bv:zp)(Ns:List bO)(X:Xs)(gm go:Nat)(m O:Nat->Bool):Prop where
 box:W.heap[w.heap.size]?=za (zy #[nv,bv] 80 (0,0))
 sp:xY w0 W nv bv Ns X
 ma:gZ W gm Ns.length m
 ou:gZ W go Ns.length O
 bl:zw w.heap.size w W
theorem JT.call{gm:Nat}{m O:Nat->Bool}(h:JT w0 w W nv bv Ns X gm go m O)(hb:zw W.heap.size W W'):JT w0 w W' nv bv Ns X gm go m O:=
 ⟨(hb.block _ (az h.box)).trans h.box,h.sp.below hb,h.ma.below hb,h.ou.below hb,bi h.bl h.bl.size hb⟩
theorem znF(w0 w:zx)(nv bv:zp)(Ns:List bO)(X:Xs)(fst:Bool)(gm cm c:Nat)(m:Nat->Bool)(hS:xY w0 w nv bv Ns X)(hM:gZ w gm Ns.length m)(hc:c<256):
  zD prog 42 #[zB #[nv,bv],.bool fst,zi (za ⟨gm,0,zh⟩) Ns.length cm,.int .u8 c] w λe W=>∃go,e=.returned (zi (za ⟨go,0,zh⟩) Ns.length Ns.length)/\w.heap.size<=go/\gZ W go Ns.length (qa X fst m c X.length)/\zw w.heap.size w W:=by
 obtain⟨i0,hi,eQ,eR,dR⟩:=info_parts Try.zyc;have jF:=hS.nx.len;have yH:=hS.bx.len;have BU:gm<w.heap.size:=az hM;obtain⟨bo,uR,rfl,-⟩:=hS.bx.at_;obtain⟨W0,ay⟩:∃W0,w.alloc (zy #[nv,.slice bo X.length uR] 80)=W0:=⟨_,rfl⟩;have b0:zw w.heap.size w W0:=by rw[<-ay];exact aC
 have x0:W0.heap[w.heap.size]?=za (zy #[nv,.slice bo X.length uR] 80 (0,0)):=by rw[<-ay];exact aU _ _
 have l7:∀W1,zw W0.heap.size W0 W1->W1.heap[W0.heap.size]?=za (zy (BC Ns.length (λ_=>false)) 4 (0,0))->JT w0 w W1 nv (.slice bo X.length uR) Ns X gm W0.heap.size m (qa X fst m c 0):=λW1 h1 h2=>
  have hb:=bi b0 b0.size h1
  ⟨(h1.block _ (az x0)).trans x0,hS.below hb,hM.below hb,h2,hb⟩
 have oa:=ag l7;have bQ:=ag ay;have HC:=ag hc;have hgo:w.heap.size<W0.heap.size:=az x0;have lP:=hS.nx.WE;have HNB:=ag lP;have eB:=hS.bx.WE;have zF:=ag eB;have yP:=hS.bl.size;clear hS hM x0 ay hc l7 lP eB
 go_enter func42,ntmps42
 go_upto_region 1 with fail
 rw[bQ.out];clear bQ
 go_wp2_with (refine wpList_make_full _ rfl _ _ 37 rfl w.heap.size 4 i0 _ 1 underlying37 hi eQ eR _ _ _ _ Ns.length rfl rfl rfl rfl (by rw[dR];omega) (by unfold maxLen;omega) b0.size ?_;intro W1 bV nM;rw[zil]at bV;have qC:=zkA bV;rw[zhb]at qC;have KL:=oa.out W1 ((Below.refl _ _).grown nM (ax _) (by intro k h;cases h)) qC;clear bV nM qC oa;obtain⟨p0,p1⟩:=dM KL.box)
 generalize zAo:W0.heap.size=go at *;clear zAo;clear b0
 go_loopw [18] (λi wr=>∃k:Nat,k<=X.length/\i=zn .i64 k/\JT w0 w wr nv (.slice bo X.length uR) Ns X gm go m (qa X fst m c k)) (λi _=>X.length-(intOf i).toNat)
 case atStart=>exact⟨0,bH _,rfl,KL⟩
 case round=>
  obtain⟨k,hk,rfl,hI⟩:=hrel;clear KL p0 p1
  by_cases hlt:k<X.length
  ·have hx:=bE hlt;obtain⟨x,I8⟩:∃x,X[k]=x:=⟨_,rfl⟩;rw[I8]at hx;clear I8;obtain⟨gb,cb,pi,YC,c0,c1,c2,c3⟩:=hI.sp.bx.row hx;cases pi;obtain⟨p0,p1⟩:=dM hI.box;have tN:=hI.sp.tr k x hx;have fk:(0:Int)<=(k:Int):=by omega
   have cG:(k:Int)<(X.length:Int):=by omega
   obtain⟨W2,dY⟩:∃W2,wr.alloc (zy #[zn .i64 x.1.rule,.bool x.1.bol,.bool x.1.eol,zn .i64 x.1.jc] 113)=W2:=⟨_,rfl⟩;have b2:zw wr.heap.size wr W2:=by rw[<-dY];exact aC
   have x2:W2.heap[wr.heap.size]?=za (zy #[zn .i64 x.1.rule,.bool x.1.bol,.bool x.1.eol,zn .i64 x.1.jc] 113 (0,0)):=by rw[<-dY];exact aU _ _
   have iz:=hI.call b2;have hA:CW w0 W2 nv Ns gm go Ns.length m (qa X fst m c k):=⟨iz.sp.nx,iz.ma,iz.ou,by omega,λg n cap e h=>by
    have:=HNB.out (by have:=tN.lt;omega) g n cap e;omega,ax _,iz.sp.bl,by omega⟩
   have hs:=Ma w0 x.2 Ns x.1.jc W2 nv (zi (za ⟨gb,0,zh⟩) X.length uR) gm cm go Ns.length Ns.length c m (qa X fst m c k) (fst || !x.1.bol) hA tN HC.out;have ho:∀p,qa X fst m c (k+1) p=(qa X fst m c k p || dr m c x.2 (fst || !x.1.bol) p):=λp=>by
    show (qa X fst m c k p || match X[k]? with|none=>false|some x=>dr m c x.2 (fst || !x.1.bol) p)=_;rw[hx]
   have hj:∀W3,gZ W3 go Ns.length (λp=>qa X fst m c k p || dr m c x.2 (fst || !x.1.bol) p)->lz (· = go) W2 W3->JT w0 w W3 nv (zi (za ⟨gb,0,zh⟩) X.length uR) Ns X gm go m (qa X fst m c (k+1)):=λW3 h1 h2=>by
    rw[show qa X fst m c (k+1)=λp=>qa X fst m c k p || dr m c x.2 (fst || !x.1.bol) p from funext ho];have Xk:=hA.ko h2 h1;have hb:zw w.heap.size w W3:=⟨h2.os.trans iz.bl.os,h2.tape.trans iz.bl.tape,h2.output.trans iz.bl.output,cM iz.bl.size h2.size,λj hj=>(h2.same j (fR hj iz.bl.size) (by omega)).trans (iz.bl.block j hj)⟩;exact⟨(h2.same _ (az iz.box) (by omega)).trans iz.box,⟨Xk.nx,iz.sp.bx.ko h2 (λh0 g n cap e h=>by have:=zF.out h0 g n cap e;omega),iz.sp.tr,iz.sp.cR,Xk.bl,iz.sp.al⟩,Xk.ma,h1,hb⟩
   have HJ:=ag hj;have nB:=ag dY;obtain⟨q0,q1,q2,q3⟩:=eu x2;obtain⟨r0,r1⟩:=dM iz.box;generalize nO:x.1.rule=rl at *;generalize cQ:x.1.bol=bl at *;generalize tT:x.1.eol=el at *;generalize Zw:x.1.jc=tp at *;clear nO cQ tT Zw hI iz hA ho hj dY hx tN x2;cases fst
   ·simp only[Bool.false_or]at hs HJ
    go_upto_region 5 with fail
    rw[nB.out];clear nB c0 c1 c2 c3 p0 p1
    go_wp2_with fail
    refine hs.mono ?_;rintro e W3 ⟨rfl,o3,t3⟩;clear hs;go_wp2
    go_roundw
    case rel=>exact⟨k+1,by omega,by go_num,HJ.out W3 o3 t3⟩
    case measure=>simp[intOf];omega
   ·simp only[Bc]at hs HJ
    go_upto_region 5 with fail
    rw[nB.out];clear nB c0 c1 c2 c3 p0 p1
    go_wp2_with fail
    refine hs.mono ?_;rintro e W3 ⟨rfl,o3,t3⟩;clear hs;go_wp2
    go_roundw
    case rel=>exact⟨k+1,by omega,by go_num,HJ.out W3 o3 t3⟩
    case measure=>simp[intOf];omega
  ·have cI:k=X.length:=by omega
   have HI:=ag hI;clear hI;go_wp2;refine bw (v:=zi (za ⟨go,0,zh⟩) Ns.length Ns.length) (by simp[results,results42,go_sem]) rfl ⟨go,rfl,by omega,?_,HI.out.bl⟩;have:=HI.out.ou;rw[cI]at this;exact this
end
section
variable {el we h:Bool}{a0 rl:Int}
theorem zf(h1:(el && !we)=false)(h2:h=true)(h3:a0<0\/rl<a0):(if (el && !we)=true then a0 else if h=true/\(a0<0\/rl<a0) then rl else a0)=rl:=by
 rw[ab (by rw[h1];exact Bool.false_ne_true),ae ⟨h2,h3⟩]
theorem Mr(h1:(el && !we)=false)(h3:0<=a0/\a0<=rl):(if (el && !we)=true then a0 else if h=true/\(a0<0\/rl<a0) then rl else a0)=a0:=by
 rw[ab (by rw[h1];exact Bool.false_ne_true),ab (λk=>by omega)]
structure JU(w0 w W:zx)(nv bv:zp)(Ns:List bO)(X:Xs)(gm:Nat)(m:Nat->Bool):Prop where
 box:W.heap[w.heap.size]?=za (zy #[nv,bv] 80 (0,0))
 sp:xY w0 W nv bv Ns X
 ma:gZ W gm Ns.length m
 bl:zw w.heap.size w W
theorem JU.call{w0 w W W':zx}{nv bv:zp}{Ns:List bO}{X:Xs}{gm:Nat}{m:Nat->Bool}(h:JU w0 w W nv bv Ns X gm m)(hb:zw W.heap.size W W'):JU w0 w W' nv bv Ns X gm m:=
 ⟨(hb.block _ (az h.box)).trans h.box,h.sp.below hb,h.ma.below hb,bi h.bl h.bl.size hb⟩
theorem zg9(w0 w:zx)(nv bv:zp)(Ns:List bO)(X:Xs)(fst we:Bool)(gm cm:Nat)(m:Nat->Bool)(S:St)(hS:xY w0 w nv bv Ns X)(hM:gZ w gm Ns.length m)(hm:vS X Ns.length m S):
  zD prog 41 #[zB #[nv,bv],.bool fst,zi (za ⟨gm,0,zh⟩) Ns.length cm,.bool we] w λe W=>e=.returned (zn .i64 (zW (aK X) fst S we))/\zw w.heap.size w W:=by
 have jF:=hS.nx.len;have yH:=hS.bx.len;have BU:gm<w.heap.size:=az hM;obtain⟨bo,uR,rfl,-⟩:=hS.bx.at_;obtain⟨W0,ay⟩:∃W0,w.alloc (zy #[nv,.slice bo X.length uR] 80)=W0:=⟨_,rfl⟩;have b0:zw w.heap.size w W0:=by rw[<-ay];exact aC
 have x0:W0.heap[w.heap.size]?=za (zy #[nv,.slice bo X.length uR] 80 (0,0)):=by rw[<-ay];exact aU _ _
 have l7:JU w0 w W0 nv (.slice bo X.length uR) Ns X gm m:=⟨x0,hS.below b0,hM.below b0,b0⟩;obtain⟨p0,p1⟩:=dM x0;have bQ:=ag ay;have HM:=ag hm;have HL:=ag hS.cR;clear hS hM x0 ay b0 hm
 go_enter func41,ntmps41
 go_upto_region 1 with fail
 rw[bQ.out];clear bQ
 go_wp2_with fail
 go_loopw [9,16] (λzzj i wr=>∃k:Nat,k<=X.length/\i=zn .i64 k/\zzj=zn .i64 (ic (aK X) fst S we k)/\JU w0 w wr nv (.slice bo X.length uR) Ns X gm m) (λ_ i _=>X.length-(intOf i).toNat)
 case atStart=>exact⟨0,bH _,rfl,rfl,l7⟩
 case round=>
  obtain⟨k,hk,rfl,rfl,hI⟩:=hrel;clear l7 p0 p1
  by_cases hlt:k<X.length
  ·have hx:=bE hlt;obtain⟨x,I8⟩:∃x,X[k]=x:=⟨_,rfl⟩;rw[I8]at hx;clear I8;obtain⟨gb,cb,pi,YC,c0,c1,c2,c3⟩:=hI.sp.bx.row hx;cases pi;obtain⟨p0,p1⟩:=dM hI.box;have tN:=hI.sp.tr k x hx;have fk:(0:Int)<=(k:Int):=by omega
   have cG:(k:Int)<(X.length:Int):=by omega
   obtain⟨W2,dY⟩:∃W2,wr.alloc (zy #[zn .i64 x.1.rule,.bool x.1.bol,.bool x.1.eol,zn .i64 x.1.jc] 113)=W2:=⟨_,rfl⟩;have b2:zw wr.heap.size wr W2:=by rw[<-dY];exact aC
   have x2:W2.heap[wr.heap.size]?=za (zy #[zn .i64 x.1.rule,.bool x.1.bol,.bool x.1.eol,zn .i64 x.1.jc] 113 (0,0)):=by rw[<-dY];exact aU _ _
   have iz:=hI.call b2;have cf:=DM w0 x.2 Ns x.1.jc W2 nv (zi (za ⟨gb,0,zh⟩) X.length uR) gm cm Ns.length m iz.sp.nx tN iz.ma (ax _);have ce:=λW3 (h:zw W2.heap.size W2 W3)=>Jq w0 x.2 Ns x.1.jc W3 nv (zi (za ⟨gb,0,zh⟩) X.length uR) (iz.call h).sp.nx tN
   have hst:=zn6 (fst:=fst) (S:=S) (we:=we) hx;rw[ztv HM.out HL.out fst hx]at hst;have FF:∀W3,zw W2.heap.size W2 W3->W3.heap[wr.heap.size]?=za (zy #[zn .i64 x.1.rule,.bool x.1.bol,.bool x.1.eol,zn .i64 x.1.jc] 113 (0,0))/\JU w0 w W3 nv (zi (za ⟨gb,0,zh⟩) X.length uR) Ns X gm m:=λW3 h=>⟨(h.block _ (az x2)).trans x2,iz.call h⟩
   obtain⟨q0,q1,q2,q3⟩:=eu x2;obtain⟨r0,r1⟩:=dM iz.box;generalize nO:x.1.rule=rl at *;generalize cQ:x.1.bol=bl at *;generalize tT:x.1.eol=el at *;generalize Zw:x.1.jc=tp at *;generalize hv:ii m x.2=v at *;generalize hem:x.2.ga.fy=em at *;generalize K9:ic (aK X) fst S we (k+1)=a1 at *;generalize Yd:ic (aK X) fst S we k=a0 at *;have iM:=ag K9;have gY:=ag hst;have zK:=ag FF;have nz:=ag iz;have nB:=ag dY;have QE:=ag ce;clear nO cQ tT Zw hv hem Yd K9 hI iz dY hx tN x2 hst FF ce b2
   go_upto_region 5 with fail
   rw[nB.out];clear nB c0 c1 c2 c3 p0 p1
   by_cases hc:el=true/\we=false
   ·obtain⟨rfl,rfl⟩:=hc;clear cf;go_wp2
    go_roundw
    case rel=>exact⟨k+1,by omega,by go_num,by rw[iM.out,gY.out];simp,nz.out⟩
    case measure=>simp[intOf];omega
   ·have hd:(el && !we)=false:=by
     cases el
     ·rfl
     ·cases we
      ·exact absurd ⟨rfl,rfl⟩ hc
      ·rfl
    have HD:=ag hd;clear hd hc;have go1:True:=trivial;cases el
    ·skip
     go_wp2_with fail
     refine cf.mono ?_;rintro e W3 ⟨rfl,b3⟩;clear cf;obtain⟨y3,I3⟩:=zK.out W3 b3;have j7:=ag I3;clear I3;obtain⟨q0,q1,q2,q3⟩:=eu y3;obtain⟨r0,r1⟩:=dM j7.out.box;clear y3;cases v
     ·cases fst
      ·cases bl
       ·skip
        have ce:=QE.out W3 b3
        go_wp2_with fail
        refine ce.mono ?_;rintro e W4 ⟨rfl,EL⟩;clear ce;obtain⟨y4,I4⟩:=zK.out W4 (bi b3 b3.size EL);have eP:=ag I4;clear I4;obtain⟨q0,q1,q2,q3⟩:=eu y4;obtain⟨r0,r1⟩:=dM eP.out.box;clear y4;cases em
        ·skip
         go_wp2
         go_roundw
         case rel=>exact⟨k+1,by omega,by go_num,by rw[iM.out,gY.out];simp,eP.out⟩
         case measure=>simp[intOf];omega
        ·skip
         by_cases aP:a0<0
         ·skip
          go_wp2
          go_roundw
          case rel=>exact⟨k+1,by omega,by go_num,by rw[iM.out,gY.out];exact congrArg _ (zf (by simp) (by simp) (by omega)).symm,eP.out⟩
          case measure=>simp[intOf];omega
         ·by_cases aL:(rl:Int)<a0
          ·skip
           go_wp2
           go_roundw
           case rel=>exact⟨k+1,by omega,by go_num,by rw[iM.out,gY.out];exact congrArg _ (zf (by simp) (by simp) (by omega)).symm,eP.out⟩
           case measure=>simp[intOf];omega
          ·skip
           go_wp2
           go_roundw
           case rel=>exact⟨k+1,by omega,by go_num,by rw[iM.out,gY.out];exact congrArg _ (Mr (by simp) (by omega)).symm,eP.out⟩
           case measure=>simp[intOf];omega
       ·skip
        go_wp2
        go_roundw
        case rel=>exact⟨k+1,by omega,by go_num,by rw[iM.out,gY.out];simp,j7.out⟩
        case measure=>simp[intOf];omega
      ·skip
       have ce:=QE.out W3 b3
       go_wp2_with fail
       refine ce.mono ?_;rintro e W4 ⟨rfl,EL⟩;clear ce;obtain⟨y4,I4⟩:=zK.out W4 (bi b3 b3.size EL);have eP:=ag I4;clear I4;obtain⟨q0,q1,q2,q3⟩:=eu y4;obtain⟨r0,r1⟩:=dM eP.out.box;clear y4;cases em
       ·skip
        go_wp2
        go_roundw
        case rel=>exact⟨k+1,by omega,by go_num,by rw[iM.out,gY.out];simp,eP.out⟩
        case measure=>simp[intOf];omega
       ·skip
        by_cases aP:a0<0
        ·skip
         go_wp2
         go_roundw
         case rel=>exact⟨k+1,by omega,by go_num,by rw[iM.out,gY.out];exact congrArg _ (zf (by simp) (by simp) (by omega)).symm,eP.out⟩
         case measure=>simp[intOf];omega
        ·by_cases aL:(rl:Int)<a0
         ·skip
          go_wp2
          go_roundw
          case rel=>exact⟨k+1,by omega,by go_num,by rw[iM.out,gY.out];exact congrArg _ (zf (by simp) (by simp) (by omega)).symm,eP.out⟩
          case measure=>simp[intOf];omega
         ·skip
          go_wp2
          go_roundw
          case rel=>exact⟨k+1,by omega,by go_num,by rw[iM.out,gY.out];exact congrArg _ (Mr (by simp) (by omega)).symm,eP.out⟩
          case measure=>simp[intOf];omega
     ·skip
      by_cases aP:a0<0
      ·skip
       go_wp2
       go_roundw
       case rel=>exact⟨k+1,by omega,by go_num,by rw[iM.out,gY.out];exact congrArg _ (zf (by simp) (by simp) (by omega)).symm,j7.out⟩
       case measure=>simp[intOf];omega
      ·by_cases aL:(rl:Int)<a0
       ·skip
        go_wp2
        go_roundw
        case rel=>exact⟨k+1,by omega,by go_num,by rw[iM.out,gY.out];exact congrArg _ (zf (by simp) (by simp) (by omega)).symm,j7.out⟩
        case measure=>simp[intOf];omega
       ·skip
        go_wp2
        go_roundw
        case rel=>exact⟨k+1,by omega,by go_num,by rw[iM.out,gY.out];exact congrArg _ (Mr (by simp) (by omega)).symm,j7.out⟩
        case measure=>simp[intOf];omega
    ·cases we
     ·exact absurd HD.out (by decide)
     ·skip
      go_wp2_with fail
      refine cf.mono ?_;rintro e W3 ⟨rfl,b3⟩;clear cf;obtain⟨y3,I3⟩:=zK.out W3 b3;have j7:=ag I3;clear I3;obtain⟨q0,q1,q2,q3⟩:=eu y3;obtain⟨r0,r1⟩:=dM j7.out.box;clear y3;cases v
      ·cases fst
       ·cases bl
        ·skip
         have ce:=QE.out W3 b3
         go_wp2_with fail
         refine ce.mono ?_;rintro e W4 ⟨rfl,EL⟩;clear ce;obtain⟨y4,I4⟩:=zK.out W4 (bi b3 b3.size EL);have eP:=ag I4;clear I4;obtain⟨q0,q1,q2,q3⟩:=eu y4;obtain⟨r0,r1⟩:=dM eP.out.box;clear y4;cases em
         ·skip
          go_wp2
          go_roundw
          case rel=>exact⟨k+1,by omega,by go_num,by rw[iM.out,gY.out];simp,eP.out⟩
          case measure=>simp[intOf];omega
         ·skip
          by_cases aP:a0<0
          ·skip
           go_wp2
           go_roundw
           case rel=>exact⟨k+1,by omega,by go_num,by rw[iM.out,gY.out];exact congrArg _ (zf (by simp) (by simp) (by omega)).symm,eP.out⟩
           case measure=>simp[intOf];omega
          ·by_cases aL:(rl:Int)<a0
           ·skip
            go_wp2
            go_roundw
            case rel=>exact⟨k+1,by omega,by go_num,by rw[iM.out,gY.out];exact congrArg _ (zf (by simp) (by simp) (by omega)).symm,eP.out⟩
            case measure=>simp[intOf];omega
           ·skip
            go_wp2
            go_roundw
            case rel=>exact⟨k+1,by omega,by go_num,by rw[iM.out,gY.out];exact congrArg _ (Mr (by simp) (by omega)).symm,eP.out⟩
            case measure=>simp[intOf];omega
        ·skip
         go_wp2
         go_roundw
         case rel=>exact⟨k+1,by omega,by go_num,by rw[iM.out,gY.out];simp,j7.out⟩
         case measure=>simp[intOf];omega
       ·skip
        have ce:=QE.out W3 b3
        go_wp2_with fail
        refine ce.mono ?_;rintro e W4 ⟨rfl,EL⟩;clear ce;obtain⟨y4,I4⟩:=zK.out W4 (bi b3 b3.size EL);have eP:=ag I4;clear I4;obtain⟨q0,q1,q2,q3⟩:=eu y4;obtain⟨r0,r1⟩:=dM eP.out.box;clear y4;cases em
        ·skip
         go_wp2
         go_roundw
         case rel=>exact⟨k+1,by omega,by go_num,by rw[iM.out,gY.out];simp,eP.out⟩
         case measure=>simp[intOf];omega
        ·skip
         by_cases aP:a0<0
         ·skip
          go_wp2
          go_roundw
          case rel=>exact⟨k+1,by omega,by go_num,by rw[iM.out,gY.out];exact congrArg _ (zf (by simp) (by simp) (by omega)).symm,eP.out⟩
          case measure=>simp[intOf];omega
         ·by_cases aL:(rl:Int)<a0
          ·skip
           go_wp2
           go_roundw
           case rel=>exact⟨k+1,by omega,by go_num,by rw[iM.out,gY.out];exact congrArg _ (zf (by simp) (by simp) (by omega)).symm,eP.out⟩
           case measure=>simp[intOf];omega
          ·skip
           go_wp2
           go_roundw
           case rel=>exact⟨k+1,by omega,by go_num,by rw[iM.out,gY.out];exact congrArg _ (Mr (by simp) (by omega)).symm,eP.out⟩
           case measure=>simp[intOf];omega
      ·skip
       by_cases aP:a0<0
       ·skip
        go_wp2
        go_roundw
        case rel=>exact⟨k+1,by omega,by go_num,by rw[iM.out,gY.out];exact congrArg _ (zf (by simp) (by simp) (by omega)).symm,j7.out⟩
        case measure=>simp[intOf];omega
       ·by_cases aL:(rl:Int)<a0
        ·skip
         go_wp2
         go_roundw
         case rel=>exact⟨k+1,by omega,by go_num,by rw[iM.out,gY.out];exact congrArg _ (zf (by simp) (by simp) (by omega)).symm,j7.out⟩
         case measure=>simp[intOf];omega
        ·skip
         go_wp2
         go_roundw
         case rel=>exact⟨k+1,by omega,by go_num,by rw[iM.out,gY.out];exact congrArg _ (Mr (by simp) (by omega)).symm,j7.out⟩
         case measure=>simp[intOf];omega
  ·have cI:k=X.length:=by omega
   have HI:=ag hI;clear hI;go_wp2;refine bw (v:=zn .i64 (ic (aK X) fst S we k)) (by simp[results,results41,go_sem]) rfl ⟨?_,HI.out.bl⟩;rw[cI,<-zr9]
   rfl
theorem zoV(w:zx)(N ga gb ca cb:Nat)(m m':Nat->Bool)(hA:gZ w ga N m)(hB:gZ w gb N m')(hN:N<=8589934592):
  zD prog 43 #[zi (za ⟨ga,0,zh⟩) N ca,zi (za ⟨gb,0,zh⟩) N cb] w λe W=>(∃b,e=.returned (.bool b)/\(b=true↔∀p,p<N->m p=m' p))/\zw w.heap.size w W:=by
 have HA:=ag hA;have HB:=ag hB;clear hA hB
 go_enter func43,ntmps43
 go_wp2_with fail
 go_loopw [8] (λi wr=>∃k:Nat,k<=N/\i=zn .i64 k/\zw w.heap.size w wr/\∀p,p<k->m p=m' p) (λi _=>N-(intOf i).toNat)
 case atStart=>exact⟨0,bH _,rfl,Below.refl _ _,λp h=>absurd h (by omega)⟩
 case round=>
  obtain⟨k,hk,rfl,hb,hp⟩:=hrel;have HP:=ag hp;have uD:=ag hb
  by_cases hlt:k<N
  ·have c0:=(HA.out.below hb).cell k hlt;have c1:=(HB.out.below hb).cell k hlt;have fk:(0:Int)<=(k:Int):=by omega
   have cG:(k:Int)<(N:Int):=by omega
   generalize ha:m k=a at *;generalize eB:m' k=b at *;have QA:=ag ha;have zF:=ag eB;clear hp hb ha eB;rcases a with _|_<;>rcases b with _|_
   ·skip
    go_upto_region 4 with fail
    go_quiet (fail)
    go_wp2
    go_roundw
    case rel=>exact⟨k+1,by omega,by go_num,bi uD.out uD.out.size ⟨rfl,rfl,rfl,ax _,λ_ _=>rfl⟩,λp h=>by
     rcases jP p k with h'|h'
     ·exact HP.out p h'
     ·obtain rfl:p=k:=by omega
      rw[QA.out,zF.out]⟩
    case measure=>simp[intOf];omega
   ·skip
    go_upto_region 4 with fail
    go_quiet (fail)
    go_wp2;go_ret;exact⟨⟨_,rfl,λh=>by simp at h,λh=>by have:=h k hlt;rw[QA.out,zF.out]at this;cases this⟩,bi uD.out uD.out.size ⟨rfl,rfl,rfl,ax _,λ_ _=>rfl⟩⟩
   ·skip
    go_upto_region 4 with fail
    go_quiet (fail)
    go_wp2;go_ret;exact⟨⟨_,rfl,λh=>by simp at h,λh=>by have:=h k hlt;rw[QA.out,zF.out]at this;cases this⟩,bi uD.out uD.out.size ⟨rfl,rfl,rfl,ax _,λ_ _=>rfl⟩⟩
   ·skip
    go_upto_region 4 with fail
    go_quiet (fail)
    go_wp2
    go_roundw
    case rel=>exact⟨k+1,by omega,by go_num,bi uD.out uD.out.size ⟨rfl,rfl,rfl,ax _,λ_ _=>rfl⟩,λp h=>by
     rcases jP p k with h'|h'
     ·exact HP.out p h'
     ·obtain rfl:p=k:=by omega
      rw[QA.out,zF.out]⟩
    case measure=>simp[intOf];omega
  ·have cI:k=N:=by omega
   clear hp hb;go_wp2;go_ret;exact⟨⟨_,rfl,λ_=>cI ▸ HP.out,λ_=>rfl⟩,uD.out⟩
end
section
variable {w0:zx}{Ns:List bO}{X:Xs}{N h c i:Nat}
theorem mC.pos:∀{T:GT} {n j:Nat},mC w0 Ns T n->j<T.ga.n->∃sv rs,Ns[T.at j]?=za ⟨115,0,0,sv⟩/\nk 0 w0 sv rs/\∀c,tR rs c=T.ga.st j c
 |.s p f,n,j,⟨h,sv,rs,h1,h2,h3⟩,hj=>by
  have hj:j<1:=hj;obtain rfl:j=0:=by omega
  subst h;exact⟨sv,rs,h1,h2,λc=>by rw[h3];show f c=((0==0)&&f c);simp⟩
 |.q a b,n,j,⟨l,r,h1,h2,h3⟩,hj=>by
  rcases Jw a.ga.n j with h|⟨k,rfl⟩
  ·obtain⟨sv,rs,e1,e2,e3⟩:=h2.pos h;refine⟨sv,rs,?_,e2,λc=>?_⟩
   ·show Ns[(a.cR++b.cR).getD j 0]?=_;rw[xC h];exact e1
   ·rw[e3];show _=(a.ga.st j c || (decide (a.ga.n<=j)&&b.ga.st (j-a.ga.n) c));simp[show ¬a.ga.n<=j from by omega]
  ·have hk:a.ga.n+k<a.ga.n+b.ga.n:=hj;obtain⟨sv,rs,e1,e2,e3⟩:=h3.pos (show k<b.ga.n by omega);refine⟨sv,rs,?_,e2,λc=>?_⟩
   ·show Ns[(a.cR++b.cR).getD (a.ga.n+k) 0]?=_;rw[Ba];exact e1
   ·rw[e3];show _=(a.ga.st (a.ga.n+k) c || (decide (a.ga.n<=a.ga.n+k)&&b.ga.st (a.ga.n+k-a.ga.n) c));rw[show a.ga.st (a.ga.n+k) c=false from Gk (u:=λi=>a.ga.st i c) λi h=>a.ga.qH i c h,lW];simp
 |.o a b,n,j,⟨l,r,h1,h2,h3⟩,hj=>by
  rcases Jw a.ga.n j with h|⟨k,rfl⟩
  ·obtain⟨sv,rs,e1,e2,e3⟩:=h2.pos h;refine⟨sv,rs,?_,e2,λc=>?_⟩
   ·show Ns[(a.cR++b.cR).getD j 0]?=_;rw[xC h];exact e1
   ·rw[e3];show _=(a.ga.st j c || (decide (a.ga.n<=j)&&b.ga.st (j-a.ga.n) c));simp[show ¬a.ga.n<=j from by omega]
  ·have hk:a.ga.n+k<a.ga.n+b.ga.n:=hj;obtain⟨sv,rs,e1,e2,e3⟩:=h3.pos (show k<b.ga.n by omega);refine⟨sv,rs,?_,e2,λc=>?_⟩
   ·show Ns[(a.cR++b.cR).getD (a.ga.n+k) 0]?=_;rw[Ba];exact e1
   ·rw[e3];show _=(a.ga.st (a.ga.n+k) c || (decide (a.ga.n<=a.ga.n+k)&&b.ga.st (a.ga.n+k-a.ga.n) c));rw[show a.ga.st (a.ga.n+k) c=false from Gk (u:=λi=>a.ga.st i c) λi h=>a.ga.qH i c h,lW];simp
 |.st a,n,j,⟨l,h1,h2⟩,hj=>by
  obtain⟨sv,rs,e1,e2,e3⟩:=h2.pos (show j<a.ga.n from hj);exact⟨sv,rs,e1,e2,e3⟩
 |.e,n,j,h,hj=>absurd hj (by simp[GT.ga,GA.yo])
def Cz(X:Xs)(h c i:Nat):Prop:=∀(k:Nat) (y:nw×GT) (j:Nat),X[k]?=za y->j<y.2.ga.n->y.2.at j<i->y.2.ga.st j h=y.2.ga.st j c
theorem zqj(hL:Gm X N):Cz X h c N↔Er (aK X) h c:=by
 constructor
 ·intro H k b i hb hi;rcases jP k X.length with hk|hk
  ·have hx:=bE hk;rw[Mp hx]at hb;cases hb;exact H k _ i hx hi (hL.lt k _ i hx hi)
  ·rw[zmg hk]at hb;cases hb
 ·intro H k y j hy hj _;exact H k _ j (Mp hy) hj
theorem Cz.skip(H:Cz X h c i){x:bO}(hx:Ns[i]?=za x)(hk:x.k≠115)(hA:∀(k:Nat) (y:nw×GT) (j:Nat),X[k]?=za y->j<y.2.ga.n->∃sv,Ns[y.2.at j]?=za ⟨115,0,0,sv⟩):Cz X h c (i+1):=by
 intro k y j hy hj hi;rcases jP (y.2.at j) i with q|q
 ·exact H k y j hy hj q
 ·obtain⟨sv,e⟩:=hA k y j hy hj;rw[show y.2.at j=i by omega,hx]at e;cases e;exact absurd rfl hk
theorem Cz.next(H:Cz X h c i)(hL:Gm X N){k:Nat}{y:nw×GT}{j:Nat}(hy:X[k]?=za y)(hj:j<y.2.ga.n)(hi:y.2.at j=i)(he:y.2.ga.st j h=y.2.ga.st j c):Cz X h c (i+1):=by
 intro k' y' j' hy' hj' qy;rcases jP (y'.2.at j') i with q|q
 ·exact H k' y' j' hy' hj' q
 ·obtain⟨rfl,rfl⟩:=hL.inj k k' y y' j j' hy hy' hj hj' (by omega);rw[hy]at hy';cases hy';exact he
theorem ztg(h:c<256):IntKind.u8.wrap (c:Int)=(c:Int):=by
 simp[IntKind.wrap,IntKind.bits,IntKind.signed];omega
def qX(bs:List dm)(c:Nat):List Int:=(List.range c).map λx=>(yk bs x:Int)
theorem Me(bs:List dm)(c:Nat):(qX bs c).length=c:=by simp[qX]
theorem zjM(bs:List dm)(c:Nat):qX bs (c+1)=qX bs c++[(yk bs c:Int)]:=by simp[qX,List.range_succ]
def l9(bs:List dm)(c:Nat):List Nat:=aM (ml bs).length (mY bs) c
def jE(bs:List dm)(c:Nat):Nat->List Int:=λi=>if i=0 then qX bs c else if i=1 then aO (l9 bs c) else []
structure pH(w0 w W:zx)(nv bv:zp)(Ns:List bO)(X:Xs)(v:Nat->zp)(l:Nat->List Int):Prop where
 box:W.heap[w.heap.size]?=za (zy #[nv,bv] 80 (0,0))
 sp:xY w0 W nv bv Ns X
 aq:aS w.heap.size 2 W v l
 bl:zw w.heap.size w W
theorem pH.call{w W W':zx}{nv bv:zp}{v:Nat->zp}{l:Nat->List Int}(h:pH w0 w W nv bv Ns X v l)(hb:zw W.heap.size W W'):pH w0 w W' nv bv Ns X v l:=
 ⟨(hb.block _ (az h.box)).trans h.box,h.sp.below hb,h.aq.below hb,bi h.bl h.bl.size hb⟩
end
variable {w:zx}{base sz n:Nat}{v:zp}{xs:List zp}{f:Nat -> List zp}
theorem uo{w':zx}{e:zG}(h:w.ownsRow base e sz v n xs)(hb:∀b,v.ownBlock=za b->w'.heap[b]?=w.heap[b]?):w'.ownsRow base e sz v n xs:=by
 obtain⟨h1,h2⟩:=h;refine⟨h1,?_⟩;rcases h2 with h0|⟨g,cap,a9,rfl,hg,hh,r⟩
 ·exact .inl h0
 ·exact .inr ⟨g,cap,a9,rfl,hg,(hb g rfl).trans hh,r⟩
theorem dL{e:zG}(h:w.ownsRow base e sz v n xs){b:Nat}(hb:v.ownBlock=za b):base<=b/\b<w.heap.size:=by
 obtain⟨h1,h2⟩:=h;rcases h2 with ⟨rfl,_⟩|⟨g,cap,a9,rfl,hg,hh,r⟩
 ·simp[Value.ownBlock]at hb
 ·simp[Value.ownBlock]at hb;subst hb;exact⟨hg,(gF.1 hh).1⟩
theorem wZ{P:Program}{ops:Array Oper}{rest:List Oper}{o:Oper}{a:Act}{Q:Exit->Act->zx->Prop}{W:zx}(mb:o.guard=zh)(s x:Operand)(t:zG)
  (ho:o.op=.call {callee:=.builtin .append,args:=#[s,x],argTypes:=#[t,t]}) (w:zx) (us:Array zp) (e:zG) (hW:W=w.alloc (zy us e)) (H:Nat) (hH:w.heap.size=H)
  (base:Nat) (i:TypeInfo) (z:zp) (sz bytes:Nat) (ht:P.underlying t=za (.slice e)) (hi:P.info? e=za i) (hz:i.zero=za z)
  (OX:i.size=sz) (Iy:i.bytes=bytes) (Jg:z.cells.size=sz) (hsz:0<sz)
  (v:zp) (n:Nat) (xs:List zp) (hs:a.eval s=v) (bV:w.ownsRow base e sz v n xs)
  (hx:a.eval x=zi (za ⟨H,0,zh⟩) 1 1) (hl:us.size=sz) (h1:∀u∈us.toList,u.oneCell'=true) (hn:n<=2000000) (Oi:bytes<=1000) (Oc:base<=w.heap.size)
  (h:∀g' cap' w',w'.ownsRow base e sz (zi (za ⟨g',0,zh⟩) (n+1) cap') (n+1) (xs++us.toList)->w.grownBy w' v.ownBlock->(v.ownBlock=za g'\/w.heap.size<=g')->wpList P ops Q rest (a.put o.dst (zi (za ⟨g',0,zh⟩) (n+1) cap')) w'):
  wpList P ops Q (o::rest) a W:=by
 subst hW hH;refine wpList_append_lies _ mb s x t ho base e i z sz bytes ht hi hz OX Iy Jg hsz v n xs hs (bV.alloc _) ⟨w.heap.size,0,zh⟩ 1 1 us.toList hx (by simp[hl]) ?_ h1 (by omega) (by unfold maxLen;omega) ?_ (by simp;omega) (w.heap.size+1) (by simp) ?_
 ·intro j y hv;have e1:(⟨w.heap.size,0,zh⟩:Addr).add j=⟨w.heap.size,j,zh⟩:=by unfold Addr.add;split<;>simp_all
  rw[e1,dt _ _ _ _ _ _ (aU w _)];rw[<-hv];simp
 ·have:(n+1)*bytes<=2000001*1000:=nt (by omega) Oi;omega
 ·intro g' cap' w' YW kZ eY hlt;refine h g' cap' w' YW ⟨kZ.os,kZ.tape,kZ.output,cM (by simp) kZ.size,λk hk hne=>?_⟩ ?_
  ·rw[kZ.block k (by simp;omega) hne,Below.heap_alloc _ _ _ hk]
  ·rcases eY with eY|eY
   ·exact .inl eY
   ·exact .inr (by omega)
theorem Ue(h:∀k,(f k).length=sz)(n:Nat):((List.range n).flatMap f).length=n*sz:=by
 induction n with
 |zero=>simp
 |succ n ih=>rw[oN,Cy,a6,ih];simp[h,Nat.succ_mul]
theorem Ud(h:∀k,(f k).length=sz)(n k j:Nat)(hk:k<n)(hj:j<sz):((List.range n).flatMap f)[k*sz+j]?=(f k)[j]?:=by
 induction n with
 |zero=>omega
 |succ n ih=>
  rw[oN,Cy]
  by_cases e:k<n
  ·rw[rU,ih e];rw[Ue h];have:(k+1)*sz<=n*sz:=Nat.mul_le_mul_right _ e;rw[Eo]at this;omega
  ·have e2:k=n:=by omega
   subst e2;rw[vH (by rw[Ue h];omega),Ue h,lW];simp
theorem PM{g:Nat->List zp}(n:Nat)(h:∀k,k<n->f k=g k):(List.range n).flatMap f=(List.range n).flatMap g:=by
 induction n with
 |zero=>rfl
 |succ n ih=>rw[oN,Cy,Cy,ih λk hk=>h k (by omega)];simp[h n (by omega)]
theorem LY(f:Nat->List zp)(n:Nat):(List.range (n+1)).flatMap f=(List.range n).flatMap f++f n:=by rw[oN,Cy];simp
theorem LX(w:zx)(e:zG)(sz B H:Nat)(hB:B<=H)(hH:w.heap.size=H):(w.alloc (zy #[] e)).ownsRow B e sz (zi (za ⟨H,0,zh⟩) 0 0) 0 []:=by
 subst hH;exact⟨by simp,.inr ⟨w.heap.size,0,#[],rfl,hB,aU _ _,by simp,by simp[maxLen],by simp,by simp⟩⟩
end Go.Proofs.Ytfajjdgkiilhfaa
