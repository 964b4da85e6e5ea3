import Derived.Test.YtfajjdgkiilhfaaGreatDoorC19
import Derived.Test.YtfajjdgkiilhfaaGreatDoorC35
import Derived.Deep.Cut
import Derived.Deep.CutRange
namespace Go.Proofs.YtfajjdgkiilhfaaGreatDoor
open Proofs.Tryz
open Option renaming none->za,some->zc
open Value renaming int->zb,slice->zd,agg->zg
open Go renaming World->ze,Value->zf,Calls->zj
open Obj renaming cells->zi
set_option maxHeartbeats 4000000
set_option maxRecDepth 100000
open Go.RowKit
attribute [local go_sem ↓] wp_at_zero wp_at_succ
section
variable {s g n g':Nat}{l:List Tok}{ns:List aC}{b:dc}{bs:List dc}
theorem Fb:∀(a b:List aC) (d e:Nat),gF a d=zc e->gF (a++b) d=gF b e
 |[],b,d,e,h=>by cases h;rfl
 |n::a,b,d,e,h=>by
  show (if d<aP n.kind then za else gF (a++b) (d-aP n.kind+1))=_;unfold gF at h;split at h
  ·cases h
  ·rename_i hn
   rw[ab hn];exact Fb a b _ _ h
theorem TE(n:aC)(hn:aP n.kind=2):∀(m d:Nat),gF (List.replicate m n) (d+m+1)=zc (d+1)
 |0,d=>rfl
 |m+1,d=>by
  rw[List.replicate_succ];show (if d+(m+1)+1<aP n.kind then za else gF (List.replicate m n) (d+(m+1)+1-aP n.kind+1))=_;rw[hn,ab (by omega),show d+(m+1)+1-2+1=d+m+1 by omega,TE n hn m d]
theorem zug(h:Gr s g l n ns g'):∀d,gF ns d=zc (d+(if s<2 then 1 else n)):=by
 induction h with
 |atom hk=>intro d;rfl
 | @dX g g' n o c l ns ho _ hc ih=>
  intro d;rw[af (by omega)];have h1:=ih d;rw[ab (by omega)]at h1;have h2:=Fb ns (List.replicate n F9) d _ h1;rw[show d+(n+1)=d+n+1 by omega,TE F9 rfl n d]at h2;rw[Fb _ _ d _ h2];show (if d+1<aP 5 then za else gF [] (d+1-aP 5+1))=_;rw[show aP 5=1 from rfl,ab (by omega)]
  rfl
 |bare _ ih=>intro d;exact ih d
 |jI _ hr ih=>
  intro d;have h1:=ih d;rw[af (by omega)]at h1 ⊢;rw[Fb _ _ d _ h1];show (if d+1<aP 4 then za else gF [] (d+1-aP 4+1))=_;rw[show aP 4=1 from rfl,ab (by omega)]
  rfl
 |one _ ih=>intro d;exact ih d
 | @more g g1 g2 n l m ns ms _ _ kD jg=>
  intro d;have h1:=kD d;rw[af (by omega)]at h1;rw[Fb _ _ d _ h1,jg (d+1),ab (by omega),ab (by omega)]
  congr 1
  omega
 | @eH g g' n l ns _ ih=>
  intro d;have h1:=ih d;rw[ab (by omega)]at h1 ⊢;rw[Fb _ _ d _ h1,show d+(n+1)=d+n+1 by omega,TE tX rfl n d]
 | @alts g g1 g2 n k l m b ns ms _ hb _ kD jg=>
  intro d;have h1:=kD d;rw[ab (by omega)]at h1 ⊢;have h2:=Fb ns (List.replicate n tX) d _ h1;rw[show d+(n+1)=d+n+1 by omega,TE tX rfl n d]at h2;rw[Fb _ _ d _ h2,jg (d+1),ab (by omega)]
  congr 1
  omega
def IG(l:List (Int×Int)):Int:=(l.getLast?.map (·.2)).getD (-2)
theorem zfI:∀(l:List (Int×Int)) (least a b:Int),qe least l=true->(l=[]->least<=a)->(l≠[]->IG l+2<=a)->a<=b->b<=255->qe least (l++[(a,b)])=true
 |[],least,a,b,_,h1,_,h3,h4=>by
  show (if a<least\/b<a\/255<b then false else true)=true;have:=h1 rfl;rw[ab (by omega)]
 |(x,y)::l,least,a,b,h,_,h2,h3,h4=>by
  show (if x<least\/y<x\/255<y then false else qe (y+2) (l++[(a,b)]))=true;unfold qe at h;split at h
  ·cases h
  ·rename_i hn
   rw[ab hn];refine zfI l (y+2) a b h (λe=>?_) (λe=>?_) h3 h4
   ·subst e;have:=h2 (by simp)
    simpa [IG]using this
   ·have:=h2 (by simp);cases l with
    |nil=>exact absurd rfl e
    |cons c l=>simpa [IG,List.getLast?_cons_cons]using this
theorem zh6:∀(l:List (Int×Int)) (least a b c:Int),qe least (l++[(a,b)])=true->b<=c->c<=255->qe least (l++[(a,c)])=true
 |[],least,a,b,c,h,h1,h2=>by
  have h:(if a<least\/b<a\/255<b then false else true)=true:=h;show (if a<least\/c<a\/255<c then false else true)=true;split at h
  ·cases h
  ·rw[ab (by omega)]
 |(x,y)::l,least,a,b,c,h,h1,h2=>by
  have h:(if x<least\/y<x\/255<y then false else qe (y+2) (l++[(a,b)]))=true:=h;show (if x<least\/y<x\/255<y then false else qe (y+2) (l++[(a,c)]))=true;split at h
  ·cases h
  ·rename_i hn
   rw[ab hn];exact zh6 l (y+2) a b c h h1 h2
theorem zjn(l:List (Int×Int))(a b:Int):IG (l++[(a,b)])=b:=by simp[IG]
theorem zrj(f:Nat->Bool):∀c,c<=256->qe 0 (ix f c)=true/\(ix f c≠[]->IG (ix f c)<c/\((0<c/\f (c-1)=true)\/IG (ix f c)+1<c))
 |0,_=>⟨rfl,λh=>absurd rfl h⟩
 |c+1,hc=>by
  obtain⟨h1,h2⟩:=zrj f c (by omega);cases hf:f c with
  |false=>
   rw[zri hf];refine⟨h1,λh=>?_⟩;have:=h2 h;omega
  |true=>
   by_cases hp:0<c/\f (c-1)=true
   ·obtain⟨l,a,hl⟩:=zlM f (c-1) hp.2;rw[show c-1+1=c by omega]at hl;rw[zrk hf hp hl];rw[hl]at h1;refine⟨zh6 l 0 a _ _ h1 (by omega) (by omega),λ_=>?_⟩;rw[zjn,show c+1-1=c by omega];exact⟨by omega,.inl ⟨by omega,hf⟩⟩
   ·rw[zkh hf hp];refine⟨zfI _ 0 _ _ h1 (λ_=>by omega) (λe=>?_) (Ai _) (by omega),λ_=>?_⟩
    ·have:=(h2 e).2;rcases this with h|h
     ·exact absurd h hp
     ·omega
    ·rw[zjn,show c+1-1=c by omega];exact⟨by omega,.inl ⟨by omega,hf⟩⟩
def uB(x:Tok):Prop:=x.kind=4->lz x.mn x.mx=true
theorem zqV(f:Nat->Bool):bk (Oj f)=true:=by simp[bk,Oj,(zrj f 256 (Nat.le_refl _)).1]
theorem zmm{p:aC->Bool}{n:aC}(h:p n=true)(m:Nat):(List.replicate m n).all p=true:=by simp[List.all_replicate,h]
theorem zvT(h:Gr s g l n ns g')(ht:∀x∈l,uB x):ns.all bk=true:=by
 induction h with
 |atom hk=>simp[zqV]
 |dX ho _ hc ih=>
  rw[vo,vo,ih λx hx=>ht x (by simp[hx]),zmm (by decide)];simp[bk,Js]
 |bare _ ih=>exact ih ht
 |jI _ hr ih=>
  rw[vo,ih λx hx=>ht x (by simp[hx])];have:=ht _ (by simp) hr;simp[bk,H6,this]
 |one _ ih=>exact ih ht
 |more _ _ kD jg=>rw[vo,kD λx hx=>ht x (by simp[hx]),jg λx hx=>ht x (by simp[hx])];rfl
 |eH _ ih=>rw[vo,ih ht,zmm (by decide)];rfl
 |alts _ hb _ kD jg=>rw[vo,vo,kD λx hx=>ht x (by simp[hx]),zmm (by decide),jg λx hx=>ht x (by simp[hx])];rfl
theorem zvo(h:Gr s g l n ns g'):∀x∈ns,x.set.length<=256:=by
 induction h with
 |atom hk=>intro x hx;simp at hx;subst hx;exact zkg _ 256
 |dX ho _ hc ih=>
  intro x hx;simp only[gH,List.mem_replicate,sZ]at hx;rcases hx with (hx|⟨_,rfl⟩)|rfl
  ·exact ih x hx
  ·simp[F9]
  ·simp[Js]
 |bare _ ih=>exact ih
 |jI _ hr ih=>
  intro x hx;simp only[gH,sZ]at hx;rcases hx with hx|rfl
  ·exact ih x hx
  ·simp[H6]
 |one _ ih=>exact ih
 |more _ _ kD jg=>intro x hx;rcases gH.1 hx with h|h;exact kD x h;exact jg x h
 |eH _ ih=>
  intro x hx;simp only[gH,List.mem_replicate]at hx;rcases hx with hx|⟨_,rfl⟩
  ·exact ih x hx
  ·simp[tX]
 |alts _ hb _ kD jg=>
  intro x hx;simp only[gH,List.mem_replicate]at hx;rcases hx with (hx|⟨_,rfl⟩)|hx
  ·exact kD x hx
  ·simp[tX]
  ·exact jg x hx
theorem ztV(h:Br g l b g'):∃t,Bs g t b.nodes g'/\((b.bol=false/\b.eol=false/\l=t)\/(∃x:Tok,x.kind=5/\b.bol=true/\b.eol=false/\l=x::t)\/(∃y:Tok,y.kind=6/\b.bol=false/\b.eol=true/\l=t++[y])\/∃x y:Tok,x.kind=5/\y.kind=6/\b.bol=true/\b.eol=true/\l=x::(t++[y])):=by
 cases h with
 |none h=>exact⟨_,⟨_,_,h,rfl⟩,.inl ⟨rfl,rfl,rfl⟩⟩
 |bol hx h=>exact⟨_,⟨_,_,h,rfl⟩,.inr (.inl ⟨_,hx,rfl,rfl,rfl⟩)⟩
 |eol hy h=>exact⟨_,⟨_,_,h,rfl⟩,.inr (.inr (.inl ⟨_,hy,rfl,rfl,rfl⟩))⟩
 |both hx hy h=>exact⟨_,⟨_,_,h,rfl⟩,.inr (.inr (.inr ⟨_,_,hx,hy,rfl,rfl,rfl⟩))⟩
theorem Bs.ok{t:List Tok}{N:List aC}(h:Bs g t N g')(ht:∀x∈t,uB x):kL N=true/\N.all bk=true/\N.length<=2*t.length/\0<N.length/\∀x∈N,x.set.length<=256:=by
 obtain⟨n,ns,hG,rfl⟩:=h;have h3:=Gr.eH hG;have h1:=zug h3 0;rw[ab (by omega)]at h1;have h2:=(Uh h3).2 (by omega);exact⟨by unfold kL;rw[h1];rfl,zvT h3 ht,by omega,TG h3,zvo h3⟩
theorem zmt(h:Br g l b g'):rN l/\mC l/\l≠[]/\g'=g+dh l l.length:=by
 obtain⟨t,⟨n,ns,hG,_⟩,h⟩:=ztV h;have e1:=zqw hG (by omega);have e2:=Iu hG;have e3:=zqx hG;have ox:∀x:Tok,x.kind=5\/x.kind=6->rN [x]/\mC [x]/\dh [x] [x].length=0:=λx hx=>⟨.one (by omega),.one (by omega) (by omega),by rw[show [x].length=1 from rfl,zW,ab (by omega)]⟩
 rcases h with ⟨_,_,rfl⟩|⟨x,hx,_,_,rfl⟩|⟨y,hy,_,_,rfl⟩|⟨x,y,hx,hy,_,_,rfl⟩
 ·exact⟨e1,e2,wP hG,e3⟩
 ·obtain⟨a,b,c⟩:=ox x (.inl hx);refine⟨a.app b e1,mC.app b e2,by simp,?_⟩;rw[show x::t=[x]++t from rfl,rJ];omega
 ·obtain⟨a,b,c⟩:=ox y (.inr hy);refine⟨e1.app e2 a,e2.app b,by simp,?_⟩;rw[rJ];omega
 ·obtain⟨a,b,c⟩:=ox x (.inl hx);obtain⟨a2,b2,c2⟩:=ox y (.inr hy);refine⟨a.app b (e1.app e2 a2),mC.app b (e2.app b2),by simp,?_⟩;rw[show x::(t++[y])=[x]++(t++[y]) from rfl,rJ,rJ];omega
theorem zvF(h:Rl g l bs g'):∃ts,Bj l ts/\ts.length=bs.length/\(∀t∈ts,rN t/\mC t/\t≠[])/\0<bs.length/\bs.length<=l.length/\g'=g+dh l l.length/\
  ∀k,k<bs.length->∃a t c,l=a++(t++c)/\(iO 0 ts).getD k (0,0)=(a.length,a.length+t.length)/\∃g2,Br (g+dh a a.length) t (bs.getD k .zero) g2:=by
 induction h with
 | @one g g' l b h=>
  obtain⟨e1,e2,e3,e4⟩:=zmt h;refine⟨[l],.one l,rfl,λt ht=>by simp at ht;subst ht;exact⟨e1,e2,e3⟩,by simp,by simp;exact pC.2 e3,e4,λk hk=>?_⟩;have:k=0:=by simpa using hk
  subst this;exact⟨[],l,[],by simp,by simp[iO],g',by simpa [dh]using h⟩
 | @more g g1 g2 l m b x bs h hx _ ih=>
  obtain⟨ts,i1,i2,i3,i4,i5,i6,i7⟩:=ih;obtain⟨e1,e2,e3,e4⟩:=zmt h;refine⟨l::ts,.more hx i1,by simp[i2],λt ht=>?_,by simp,by simp;omega,?_,λk hk=>?_⟩
  ·simp at ht;rcases ht with rfl|ht
   ·exact⟨e1,e2,e3⟩
   ·exact i3 t ht
  ·rw[show l++x::m=l++([x]++m) from rfl,rJ,rJ,show [x].length=1 from rfl,zW,ab (by omega)];omega
  ·cases k with
   |zero=>exact⟨[],l,x::m,by simp,by simp[iO],g1,by simpa [dh]using h⟩
   |succ k=>
    obtain⟨a,t,c,j1,j2,g3,j3⟩:=i7 k (by simpa using hk);refine⟨l++x::a,t,c,by rw[j1];simp,?_,g3,?_⟩
    ·show (iO (0+l.length+1) ts).getD k (0,0)=_;rw[iH,show iO (l.length+1) ts=iO (l.length+1+0) ts from rfl,Tj];have dY:k<(iO 0 ts).length:=by rw[TM,i2];simpa using hk
     rw[bJ,bE dY]at j2;rw[bJ,wV,bE dY];have j2:(iO 0 ts)[k]=(a.length,a.length+t.length):=j2;rw[j2];simp[Ib];omega
    ·have:g+dh (l++x::a) (l++x::a).length=g1+dh a a.length:=by
      rw[show l++x::a=l++([x]++a) from rfl,rJ,rJ,show [x].length=1 from rfl,zW,ab (by omega)];omega
     rw[this];exact j3
theorem zsV{l:List aC}{j:Nat}(h:j<l.length):l.getD j .zero∈l:=by
 rw[bJ,bE h];exact gA _
theorem ztK(h:Rl g l bs g')(ht:∀x∈l,uB x)(hl:l.length<=2000):qP bs/\Small bs:=by
 obtain⟨ts,_,_,_,_,h5,_,h7⟩:=zvF h;have key:∀k,k<bs.length->kL (bs.getD k .zero).nodes=true/\(bs.getD k .zero).nodes.all bk=true/\(bs.getD k .zero).nodes.length<=4000/\∀x∈(bs.getD k .zero).nodes,x.set.length<=256:=by
  intro k hk;obtain⟨a,t,c,e,_,g2,hB⟩:=h7 k hk;obtain⟨u,hA,hu⟩:=ztV hB;have hut:∀x∈u,uB x:=by
   intro x hx;refine ht x ?_;rw[e];rcases hu with ⟨_,_,rfl⟩|⟨x,hx,_,_,rfl⟩|⟨y,hy,_,_,rfl⟩|⟨x,y,hx,hy,_,_,rfl⟩<;>simp_all
  have hul:u.length<=2000:=by
   have h1:=congrArg List.length e;simp at h1;rcases hu with ⟨_,_,rfl⟩|⟨x,hx,_,_,rfl⟩|⟨y,hy,_,_,rfl⟩|⟨x,y,hx,hy,_,_,rfl⟩<;>(try simp at h1)<;>omega
  obtain⟨a1,a2,a3,_,a5⟩:=hA.ok hut;exact⟨a1,a2,by omega,a5⟩
 refine⟨λk hk=>⟨(key k hk).1,(key k hk).2.1⟩,by omega,λk hk=>⟨by have:=(key k hk).2.2.1;omega,λj hj=>?_⟩⟩;have:=(key k hk).2.2.2 _ (zsV hj);omega
end
section
variable {s:List UInt8}{i:Nat}
theorem zlg{l:List UInt8}{m n:Int}{k:Nat}(h:nW l=zc (m,n,k)):lz m n=true:=by
 unfold nW at h;split at h
 ·cases h
 ·split at h
  ·split at h
   ·cases h
   ·rename_i a ha
    cases h
    have:=KS ha;simp[lz];omega
  ·split at h
   ·cases h
   ·rename_i a ha
    have h1:=KS ha;split at h
    ·cases h;simp[lz];omega
    ·split at h
     ·cases h
     ·rename_i b hb
      have h2:=KS hb;split at h
      ·cases h;simp[lz];omega
      ·cases h
theorem zu2{j:Nat}{x:Tok}(h:fS s i=.inr (x,j)):uB x:=by
 intro hk;unfold fS at h
 by_cases D5:aA s i=94
 ·rw[af D5]at h;cases h;simp at hk
 rw[ab D5]at h
 by_cases DV:aA s i=36
 ·rw[af DV]at h;cases h;simp at hk
 rw[ab DV]at h
 by_cases DW:aA s i=40
 ·rw[af DW]at h;cases h;simp at hk
 rw[ab DW]at h
 by_cases DX:aA s i=41
 ·rw[af DX]at h;cases h;simp at hk
 rw[ab DX]at h
 by_cases DU:aA s i=124
 ·rw[af DU]at h;cases h;simp at hk
 rw[ab DU]at h
 by_cases DY:aA s i=42
 ·rw[af DY]at h;cases h;rfl
 rw[ab DY]at h
 by_cases DZ:aA s i=43
 ·rw[af DZ]at h;cases h;rfl
 rw[ab DZ]at h
 by_cases D1:aA s i=63
 ·rw[af D1]at h;cases h;rfl
 rw[ab D1]at h
 by_cases DT:aA s i=123
 ·rw[af DT]at h;cases hf:nW (s.drop (i+1)) with
  |none=>rw[hf]at h;cases h
  |some q=>obtain⟨m,n,k⟩:=q;rw[hf]at h;cases h;exact zlg hf
 rw[ab DT]at h
 by_cases D3:aA s i=91
 ·rw[af D3]at h;cases hf:sP (s.drop (i+1)) with
  |none=>rw[hf]at h;cases h
  |some q=>rw[hf]at h;cases h;simp at hk
 rw[ab D3]at h
 by_cases D0:aA s i=46
 ·rw[af D0]at h;cases h;simp at hk
 rw[ab D0]at h
 by_cases D4:aA s i=92
 ·rw[af D4]at h;cases hf:C3 (aA s (i+1)) with
  |false=>rw[hf,ab (by decide)]at h;cases h
  |true=>rw[hf,af rfl]at h;cases h;simp at hk
 rw[ab D4]at h;cases h;simp at hk
theorem zrN{c:Int}(h:fS s i=.inl c):c=2\/c=3\/c=4:=by
 unfold fS at h
 by_cases D5:aA s i=94
 ·rw[af D5]at h;cases h
 rw[ab D5]at h
 by_cases DV:aA s i=36
 ·rw[af DV]at h;cases h
 rw[ab DV]at h
 by_cases DW:aA s i=40
 ·rw[af DW]at h;cases h
 rw[ab DW]at h
 by_cases DX:aA s i=41
 ·rw[af DX]at h;cases h
 rw[ab DX]at h
 by_cases DU:aA s i=124
 ·rw[af DU]at h;cases h
 rw[ab DU]at h
 by_cases DY:aA s i=42
 ·rw[af DY]at h;cases h
 rw[ab DY]at h
 by_cases DZ:aA s i=43
 ·rw[af DZ]at h;cases h
 rw[ab DZ]at h
 by_cases D1:aA s i=63
 ·rw[af D1]at h;cases h
 rw[ab D1]at h
 by_cases DT:aA s i=123
 ·rw[af DT]at h;cases hf:nW (s.drop (i+1)) with
  |none=>rw[hf]at h;cases h;omega
  |some q=>rw[hf]at h;cases h
 rw[ab DT]at h
 by_cases D3:aA s i=91
 ·rw[af D3]at h;cases hf:sP (s.drop (i+1)) with
  |none=>rw[hf]at h;cases h;omega
  |some q=>rw[hf]at h;cases h
 rw[ab D3]at h
 by_cases D0:aA s i=46
 ·rw[af D0]at h;cases h
 rw[ab D0]at h
 by_cases D4:aA s i=92
 ·rw[af D4]at h;cases hf:C3 (aA s (i+1)) with
  |false=>rw[hf,ab (by decide)]at h;cases h;omega
  |true=>rw[hf,af rfl]at h;cases h
 rw[ab D4]at h;cases h
theorem Fh(s:List UInt8):∀(M i:Nat) (l:List Tok),s.length-i<=M->(∀x∈l,uB x/\x.kind<7)->l.length<=i->l.length<=s.length->(∀x∈(kE s i l).1,uB x/\x.kind<7)/\(kE s i l).1.length<=s.length/\((kE s i l).2.1=0->(kE s i l).2.2=0)
 |M,i,l,hM,h,hl,eE=>by
  by_cases hi:i<s.length
  ·cases ht:fS s i with
   |inl c=>
    rw[Im hi ht];refine⟨h,eE,λe=>?_⟩;have hc:=zrN ht;have e:c=0:=e;omega
   |inr q=>
    obtain⟨x,j⟩:=q;rw[znT hi ht];have h2:=Tv ht
    match M,hM with
    |0,hM=>omega
    |M+1,hM=>
     refine Fh s M j (l++[x]) (by omega) (λy hy=>?_) (by simp;omega) (by simp;omega);rcases gH.1 hy with hy|hy
     ·exact h y hy
     ·simp at hy;subst hy;exact⟨zu2 ht,h2.2.1⟩
  ·rw[zj3 hi];exact⟨h,eE,λ_=>rfl⟩
inductive Ab (s:List UInt8):dL->Int->Int->Prop
 |Y0:2000<s.length->Ab s .zero 1 2000
 |lex {l:List Tok} {c:Int} {i:Nat}:s.length<=2000->kE s 0 []=(l,c,i)->c≠0->Ab s .zero c (i:Int)
 |fault {l:List Tok} {k:Nat}:s.length<=2000->kE s 0 []=(l,0,0)->k<l.length->(∀j,j<k->lu l j=0)->lu l k≠0->Ab s .zero (lu l k) ((l.getD k iP).pos:Int)
 |op {l:List Tok}:s.length<=2000->kE s 0 []=(l,0,0)->(∀j,j<l.length->lu l j=0)->dZ (dx l l.length)->Ab s .zero 6 (s.length:Int)
 |opn {l:List Tok}:s.length<=2000->kE s 0 []=(l,0,0)->(∀j,j<l.length->lu l j=0)->¬dZ (dx l l.length)->0<aX l l.length->Ab s .zero 8 ((l.getD ((fL l l.length).getD ((fL l l.length).length-1) 0) iP).pos:Int)
 |XD {l:List Tok} {bs:List dc} {g:Nat}:s.length<=2000->kE s 0 []=(l,0,0)->(∀j,j<l.length->lu l j=0)->¬dZ (dx l l.length)->aX l l.length=0->Rl 0 l bs g->2000<gG bs->Ab s .zero 10 0
 |D9 {l:List Tok} {bs:List dc} {g:Nat}:s.length<=2000->kE s 0 []=(l,0,0)->(∀j,j<l.length->lu l j=0)->¬dZ (dx l l.length)->aX l l.length=0->Rl 0 l bs g->gG bs<=2000->Ab s ⟨bs,(g:Int)⟩ 0 0
theorem zhu(l:List Tok):∀n,(∀j,j<n->lu l j=0)\/∃k,k<n/\(∀j,j<k->lu l j=0)/\lu l k≠0
 |0=>.inl λj h=>absurd h (by omega)
 |n+1=>by
  rcases zhu l n with h|⟨k,h1,h2,h3⟩
  ·by_cases e:lu l n=0
   ·left
    intro j hj
    by_cases e2:j=n
    ·subst e2;exact e
    ·exact h j (by omega)
   ·exact .inr ⟨n,by omega,h,e⟩
  ·exact .inr ⟨k,by omega,h2,h3⟩
theorem Z4(s:List UInt8):∃r c a,Ab s r c a:=by
 by_cases h0:2000<s.length
 ·exact⟨_,_,_,.Y0 h0⟩
 have h0:s.length<=2000:=by omega
 obtain⟨l,c,i,hl⟩:∃l c i,kE s 0 []=(l,c,i):=⟨_,_,_,rfl⟩;obtain⟨k1,k2,k3⟩:=Fh s s.length 0 [] (by omega) (by simp) (by simp) (by simp);rw[hl]at k1 k2 k3
 by_cases hc:c=0
 case neg=>exact⟨_,_,_,.lex h0 hl hc⟩
 have hi:i=0:=k3 hc;subst hc hi;rcases zhu l l.length with hf|⟨k,h1,h2,h3⟩
 case inr=>exact⟨_,_,_,.fault h0 hl h1 h2 h3⟩
 by_cases ho:dZ (dx l l.length)
 ·exact⟨_,_,_,.op h0 hl hf ho⟩
 have I:=SL l l.length hf
 by_cases hd:aX l l.length=0
 case neg=>exact⟨_,_,_,.opn h0 hl hf ho (by have:=I.len;omega)⟩
 have hK:Fu l:=λk hk=>by
  have:=(k1 (l.getD k iP) (by rw[bJ,bE hk];exact gA _)).2;exact this
 obtain⟨bs,g,hR⟩:=zuH hK hf ho hd
 by_cases hw:2000<gG bs
 ·exact⟨_,_,_,.XD h0 hl hf ho hd hR hw⟩
 ·exact⟨_,_,_,.D9 h0 hl hf ho hd hR (by omega)⟩
theorem mK.to{B:Nat}{W:ze}{sv:zf}{l:List Tok}{q:Nat->Nat}(h:mK B W sv l q)(hk:∀x∈l,uB x/\x.kind<7)(h0:0<l.length):∃G c,sv=zd (zc ⟨G,0,za⟩) l.length c/\gP W G 0 0 l q/\l.length<=c/\c<=9223372036854775807:=by
 have et:=h.row;rcases h.row.2 with ⟨_,h1⟩|⟨g,cap,aZ,rfl,hg,hh,h1,h2,h3,h4⟩
 ·omega
 ·refine⟨g,cap,rfl,⟨ay hh,λk hk j hj=>?_,λk hk h0=>(h.set k hk h0).2.2,λk bu=>?_⟩,h1,Ii h2⟩
  ·rw[iH,et.cellAt (k*5+j) (by omega)];exact zto l q hk hj
  ·exact(hk (l.getD k iP) (by rw[bJ,bE bu];exact gA _)).2
def AA(w:ze)(r:dL)(c a:Int)(e:Ending)(w':ze):Prop:=Below w.heap.size w w'/\∃v,e=.returned (.tuple #[zg #[v,zb .i64 r.jC],zb .i64 c,zb .i64 a])/\iQ w.heap.size w' v r.branches
theorem iQ.nil(lo:Nat)(w:ze):iQ lo w (zd za 0 0) []:=⟨za,0,rfl,by simp,λh=>absurd h (by simp)⟩
end
section
variable {w:ze}
theorem AA.bad{w':ze}(hb:Below w.heap.size w w'){c a c' a':Int}(hc:c'=c)(ha:a'=a):AA w .zero c a (.returned (.tuple #[zg #[zd za 0 0,zb .i64 0],zb .i64 c',zb .i64 a'])) w':=by
 subst hc ha;exact⟨hb,_,rfl,iQ.nil _ _⟩
theorem jK{g:Nat}{a b:zf}{t:TypeId}(h:w.heap[g]?=zc (zi #[a,b] t (0,0))):w.cell? ⟨g,0,za⟩=zc a/\w.cell? ⟨g,1,za⟩=zc b/\w.frozen? ⟨g,0,za⟩=false/\w.frozen? ⟨g,1,za⟩=false:=
 ⟨cG h 0,cG h 1,aM _ _ _ _ _ h,aM _ _ _ _ _ h⟩
theorem ziH(t:ByteArray)(w:ze)(h:2000<t.size):
  zj prog 63 #[.string t] w (AA w .zero 1 2000):=by
 have h1:(2000:Int)<(t.size:Int):=by omega
 go_enter func63,ntmps63
 go_wp2;refine aW (v:=.tuple #[zg #[zd za 0 0,zb .i64 0],zb .i64 1,zb .i64 2000]) (by simp[results,results63,go_sem]) rfl ?_;exact .bad (ax) rfl rfl
theorem zkl(t:ByteArray)(w:ze)(hs:t.size<=2000){l:List Tok}{c:Int}{i:Nat}(hl:kE t.data.toList 0 []=(l,c,i))(hc:c≠0):
  zj prog 63 #[.string t] w (AA w .zero c (i:Int)):=by
 have h1:¬(2000:Int)<(t.size:Int):=by omega
 have hk:=Fh t.data.toList t.data.toList.length 0 [] (by omega) (by simp) (by simp) (by simp);rw[hl]at hk;obtain⟨cC,dY,_⟩:=hk;have hsz:t.data.toList.length=t.size:=iW;have RP:l.length<=t.data.toList.length:=dY;have cC:∀x∈l,uB x/\x.kind<7:=cC;have dY:l.length<=2000:=by omega
 clear hsz
 go_enter func63,ntmps63
 go_wp2_with fail
 obtain⟨W1,cZ⟩:∃W1,W1=w.alloc (zi #[zd za 0 0,zb .i64 0] 101):=⟨_,rfl⟩;have hP:W1.heap[w.heap.size]?=zc (zi #[zd za 0 0,zb .i64 0] 101 (0,0)):=by rw[cZ];exact aJ _ _
 have dA:Below w.heap.size w W1:=by rw[cZ];exact ax
 rw[<-cZ];clear cZ;refine(OM t W1 (by omega)).mono ?_;rw[hl];rintro e w2 ⟨aB,sv,q,rfl,hS⟩;have fO:=aT hP aB;have dk:=aH dA dA.size aB;have hS:mK W1.heap.size w2 sv l q:=hS;have HS:=ah hS;have yR:=ah cC;have B8:=hP;clear hP hS cC;have mP:(c != 0)=true:=by simpa using hc
 obtain⟨r0,r1,f0,f1⟩:=jK fO;go_wp2;refine aW (v:=.tuple #[zg #[zd za 0 0,zb .i64 0],zb .i64 c,zb .i64 i]) (by simp[results,results63,go_sem,r0,r1]) rfl ?_;exact .bad ((dk.setCell (by simp) _).setCell (by simp) _) rfl rfl
theorem zih(t:ByteArray)(w:ze)(hs:t.size<=2000){l:List Tok}{k:Nat}(hl:kE t.data.toList 0 []=(l,0,0))(tM:k<l.length)(bm:∀j,j<k->lu l j=0)(hf:lu l k≠0):
  zj prog 63 #[.string t] w (AA w .zero (lu l k) ((l.getD k iP).pos:Int)):=by
 have h0:0<l.length:=by omega
 have h1:¬(2000:Int)<(t.size:Int):=by omega
 have hk:=Fh t.data.toList t.data.toList.length 0 [] (by omega) (by simp) (by simp) (by simp);rw[hl]at hk;obtain⟨cC,dY,_⟩:=hk;have hsz:t.data.toList.length=t.size:=iW;have RP:l.length<=t.data.toList.length:=dY;have cC:∀x∈l,uB x/\x.kind<7:=cC;have dY:l.length<=2000:=by omega
 clear hsz
 go_enter func63,ntmps63
 go_wp2_with fail
 obtain⟨W1,cZ⟩:∃W1,W1=w.alloc (zi #[zd za 0 0,zb .i64 0] 101):=⟨_,rfl⟩;have hP:W1.heap[w.heap.size]?=zc (zi #[zd za 0 0,zb .i64 0] 101 (0,0)):=by rw[cZ];exact aJ _ _
 have dA:Below w.heap.size w W1:=by rw[cZ];exact ax
 rw[<-cZ];clear cZ;refine(OM t W1 (by omega)).mono ?_;rw[hl];rintro e w2 ⟨aB,sv,q,rfl,hS⟩;have fO:=aT hP aB;have dk:=aH dA dA.size aB;have hS:mK W1.heap.size w2 sv l q:=hS;have HS:=ah hS;have yR:=ah cC;have B8:=hP;clear hP hS cC;have hG:=HS.out.to yR.out h0;obtain⟨G,cc,rfl,hV,pO,jE⟩:=hG;have Ef:w.heap.size≠G:=by have h1:W1.heap.size<=G:=(dU HS.out.row rfl).1;have:=ay B8;omega
 have HV:=ah hV;obtain⟨n,hn⟩:∃n,n=l.length:=⟨_,rfl⟩;have kA:n<=2000:=by omega
 have EE:0<n:=by omega
 have nH:(n:Int)<=(cc:Int):=by omega
 have Cg:(cc:Int)<=9223372036854775807:=by omega
 have HN:=ah hn;rw[<-hn];obtain⟨r0,r1,f0,f1⟩:=jK fO;clear hV hn dY;go_wp2
 go_loop [35] (λi=>∃j:Nat,j<=k/\i=zb .i64 (j:Int)) (λi=>k-(intOf i).toNat)
 case atStart=>exact⟨0,by omega,rfl⟩
 case round=>
  obtain⟨j,hj,rfl⟩:=hrel;have kz:k<n:=by have:=HN.out;omega
  have sf:(j:Int)<(n:Int):=by omega
  have hC:=Th (c:=cc) w2 HV.out (k:=j) (by have:=HN.out;omega) (by have:=HN.out;omega);rw[<-HN.out]at hC
  by_cases hlt:j<k
  ·rw[bm j hlt]at hC
   go_wp2_with fail
   refine hC.mono ?_;rintro e w3 ⟨rfl,hw⟩;rw[hw];clear hw w3 hC;go_wp2
   go_round
   case rel=>exact⟨j+1,by omega,by go_num⟩
   case measure=>simp[intOf];omega
  ·have qz:j=k:=by omega
   subst qz;have z1:=HV.out.Y4 tM;rw[iH]at z1;generalize lu l j=F at *;generalize ((l.getD j iP).pos:Int)=PP at *;have hFb:(F != 0)=true:=by simpa using hf
   have z2:((w2.setCell ⟨w.heap.size,0,za⟩ (zd za 0 0)).setCell ⟨w.heap.size,1,za⟩ (zb .i64 0)).cell? ⟨G,j*5+1,za⟩=zc (zb .i64 PP):=by
    rw[World.cell?_of_block (w:=w2)]
    ·exact z1
    ·rw[Below.heap_setCell _ _ _ _ (λe=>Ef e.symm),Below.heap_setCell _ _ _ _ (λe=>Ef e.symm)]
   go_wp2_with fail
   refine hC.mono ?_;rintro e w3 ⟨rfl,hw⟩;rw[hw];clear hw w3 hC;go_wp2
   go_region
   all_goals go_wp2
   all_goals refine aW (v:=.tuple #[zg #[zd za 0 0,zb .i64 0],zb .i64 F,zb .i64 PP]) (by simp[results,results63,go_sem,r0,r1]) rfl ?_
   all_goals first|exact .bad ((dk.setCell (aq _) _).setCell (aq _) _) rfl rfl|exact .bad ((dk.setCell (aq _) _).setCell (aq _) _).drew rfl rfl|exact .bad ((dk.drew.setCell (aq _) _).setCell (aq _) _) rfl rfl
end
theorem zl0(t:ByteArray)(w:ze)(hs:t.size<=2000){l:List Tok}(hl:kE t.data.toList 0 []=(l,0,0))(bm:∀j,j<l.length->lu l j=0)(ho:dZ (dx l l.length)):
  zj prog 63 #[.string t] w (AA w .zero 6 (t.size:Int)):=by
 have h1:¬(2000:Int)<(t.size:Int):=by omega
 have hk:=Fh t.data.toList t.data.toList.length 0 [] (by omega) (by simp) (by simp) (by simp);rw[hl]at hk;obtain⟨cC,dY,_⟩:=hk;have hsz:t.data.toList.length=t.size:=iW;have RP:l.length<=t.data.toList.length:=dY;have cC:∀x∈l,uB x/\x.kind<7:=cC;have dY:l.length<=2000:=by omega
 clear hsz
 go_enter func63,ntmps63
 go_wp2_with fail
 obtain⟨W1,cZ⟩:∃W1,W1=w.alloc (zi #[zd za 0 0,zb .i64 0] 101):=⟨_,rfl⟩;have hP:W1.heap[w.heap.size]?=zc (zi #[zd za 0 0,zb .i64 0] 101 (0,0)):=by rw[cZ];exact aJ _ _
 have dA:Below w.heap.size w W1:=by rw[cZ];exact ax
 rw[<-cZ];clear cZ;refine(OM t W1 (by omega)).mono ?_;rw[hl];rintro e w2 ⟨aB,sv,q,rfl,hS⟩;have fO:=aT hP aB;have dk:=aH dA dA.size aB;have hS:mK W1.heap.size w2 sv l q:=hS;have HS:=ah hS;have yR:=ah cC;have B8:=hP;clear hP hS cC;rcases Nat.eq_zero_or_pos l.length with h0|h0
 ·have jF:∃ao cc,sv=.slice ao 0 cc:=by
   rcases HS.out.row.2 with ⟨h,_⟩|⟨g,cap,_,h,_⟩
   ·exact⟨_,_,h⟩
   ·exact⟨_,_,by rw[h0]at h;exact h⟩
  obtain⟨ao,cc,rfl⟩:=jF;have hC:=Ti (v:=ao) (n:=0) (c:=cc) (ck:=(0:Int)-1) w2 (.inl (by omega));obtain⟨r0,r1,f0,f1⟩:=jK fO;clear bm ho dY h0 hl;go_wp2
  go_loop [35] (λi=>i=zb .i64 0) (λ_=>0)
  case atStart=>rfl
  case round=>
   obtain rfl:=hrel
   go_wp2_with fail
   refine hC.mono ?_;rintro e w3 ⟨rfl,hw⟩;rw[hw];clear hw w3 hC;go_wp2;refine aW (v:=.tuple #[zg #[zd za 0 0,zb .i64 0],zb .i64 6,zb .i64 t.size]) (by simp[results,results63,go_sem,r0,r1]) rfl ?_;exact .bad ((dk.setCell (aq _) _).setCell (aq _) _) rfl rfl
 have hG:=HS.out.to yR.out h0;obtain⟨G,cc,rfl,hV,pO,jE⟩:=hG;have Ef:w.heap.size≠G:=by have h1:W1.heap.size<=G:=(dU HS.out.row rfl).1;have:=ay B8;omega
 have HV:=ah hV;obtain⟨n,hn⟩:∃n,n=l.length:=⟨_,rfl⟩;have kA:n<=2000:=by omega
 have EE:0<n:=by omega
 have nH:(n:Int)<=(cc:Int):=by omega
 have Cg:(cc:Int)<=9223372036854775807:=by omega
 have HN:=ah hn;rw[<-hn];obtain⟨r0,r1,f0,f1⟩:=jK fO;clear hV hn dY;go_wp2
 go_loop [35] (λi=>∃j:Nat,j<=n/\i=zb .i64 (j:Int)) (λi=>n-(intOf i).toNat)
 case atStart=>exact⟨0,by omega,rfl⟩
 case round=>
  obtain⟨j,hj,rfl⟩:=hrel
  by_cases hlt:j<n
  ·have sf:(j:Int)<(n:Int):=by omega
   have hC:=Th (c:=cc) w2 HV.out (k:=j) (by have:=HN.out;omega) (by have:=HN.out;omega);rw[<-HN.out,bm j (by have:=HN.out;omega)]at hC
   go_wp2_with fail
   refine hC.mono ?_;rintro e w3 ⟨rfl,hw⟩;rw[hw];clear hw w3 hC;go_wp2
   go_round
   case rel=>exact⟨j+1,by omega,by go_num⟩
   case measure=>simp[intOf];omega
  have sf:j=n:=by omega
  subst sf;have tE:Fu l:=λk hk=>HV.out.qG k hk
  have mO:=TP tE (k:=l.length) (aq _);have hC:=SW (c:=cc) w2 HV.out (k:=l.length) (ck:=(j:Int)-1) (aq _) (by have:=HN.out;omega);rw[<-HN.out]at hC mO;have AP:dx l j≠7:=by unfold dx;rw[ab (by omega)];have:=tE (j-1) (by have:=HN.out;omega);omega
  have p1:(pB (dx l j)==40)=decide (dx l j=1):=Ad mO 1 (by omega);have p3:(pB (dx l j)==124)=decide (dx l j=3):=Ad mO 3 (by omega);have p5:(pB (dx l j)==94)=decide (dx l j=5):=Ad mO 5 (by omega);have P1:=ah p1;have P3:=ah p3;have P5:=ah p5;rw[<-HN.out]at ho;have HO:=ah ho;have PU:=ah AP;have GL:((j:Int)==0)=false:=by simp;omega
  clear p1 p3 p5 ho AP tE mO hj hlt;generalize dx l j=PK at *;generalize pB PK=PB at *
  go_wp2_with fail
  refine hC.mono ?_;rintro e w3 ⟨rfl,hw⟩;rw[hw];clear hw w3 hC
  by_cases e1:PK=1
  ·have q1:(PB==40)=true:=by rw[P1.out];simp[e1]
   go_wp2;refine aW (v:=.tuple #[zg #[zd za 0 0,zb .i64 0],zb .i64 6,zb .i64 t.size]) (by simp[results,results63,go_sem,r0,r1]) rfl ?_;exact .bad ((dk.setCell (aq _) _).setCell (aq _) _) rfl rfl
  have q1:(PB==40)=false:=by rw[P1.out];simp[e1]
  by_cases e3:PK=3
  ·have q3:(PB==124)=true:=by rw[P3.out];simp[e3]
   go_wp2;refine aW (v:=.tuple #[zg #[zd za 0 0,zb .i64 0],zb .i64 6,zb .i64 t.size]) (by simp[results,results63,go_sem,r0,r1]) rfl ?_;exact .bad ((dk.setCell (aq _) _).setCell (aq _) _) rfl rfl
  have q3:(PB==124)=false:=by rw[P3.out];simp[e3]
  have e5:PK=5:=by have h1:=HO.out;have h2:=PU.out;unfold dZ at h1;omega
  have q5:(PB==94)=true:=by rw[P5.out];simp[e5]
  go_wp2;refine aW (v:=.tuple #[zg #[zd za 0 0,zb .i64 0],zb .i64 6,zb .i64 t.size]) (by simp[results,results63,go_sem,r0,r1]) rfl ?_;exact .bad ((dk.setCell (aq _) _).setCell (aq _) _) rfl rfl
theorem zkm(t:ByteArray)(w:ze)(hs:t.size<=2000){l:List Tok}(hl:kE t.data.toList 0 []=(l,0,0))(bm:∀j,j<l.length->lu l j=0)(ho:¬dZ (dx l l.length))(hd:0<aX l l.length):
  zj prog 63 #[.string t] w (AA w .zero 8 ((l.getD ((fL l l.length).getD ((fL l l.length).length-1) 0) iP).pos:Int)):=by
 obtain⟨T,_,hT,zh,tF,xJ,hT4⟩:=zqI bm hd;rw[<-hT];have Aw:=ah xJ;have HT4:=ah hT4;clear hT xJ hT4;have h0:0<l.length:=by omega
 have h1:¬(2000:Int)<(t.size:Int):=by omega
 have hk:=Fh t.data.toList t.data.toList.length 0 [] (by omega) (by simp) (by simp) (by simp);rw[hl]at hk;obtain⟨cC,dY,_⟩:=hk;have hsz:t.data.toList.length=t.size:=iW;have RP:l.length<=t.data.toList.length:=dY;have cC:∀x∈l,uB x/\x.kind<7:=cC;have dY:l.length<=2000:=by omega
 clear hsz
 go_enter func63,ntmps63
 go_wp2_with fail
 obtain⟨W1,cZ⟩:∃W1,W1=w.alloc (zi #[zd za 0 0,zb .i64 0] 101):=⟨_,rfl⟩;have hP:W1.heap[w.heap.size]?=zc (zi #[zd za 0 0,zb .i64 0] 101 (0,0)):=by rw[cZ];exact aJ _ _
 have dA:Below w.heap.size w W1:=by rw[cZ];exact ax
 rw[<-cZ];clear cZ;refine(OM t W1 (by omega)).mono ?_;rw[hl];rintro e w2 ⟨aB,sv,q,rfl,hS⟩;have fO:=aT hP aB;have dk:=aH dA dA.size aB;have hS:mK W1.heap.size w2 sv l q:=hS;have HS:=ah hS;have yR:=ah cC;have B8:=hP;clear hP hS cC;have hG:=HS.out.to yR.out h0;obtain⟨G,cc,rfl,hV,pO,jE⟩:=hG;have Ef:w.heap.size≠G:=by have h1:W1.heap.size<=G:=(dU HS.out.row rfl).1;have:=ay B8;omega
 have HV:=ah hV;obtain⟨n,hn⟩:∃n,n=l.length:=⟨_,rfl⟩;have kA:n<=2000:=by omega
 have EE:0<n:=by omega
 have nH:(n:Int)<=(cc:Int):=by omega
 have Cg:(cc:Int)<=9223372036854775807:=by omega
 have HN:=ah hn;rw[<-hn];obtain⟨r0,r1,f0,f1⟩:=jK fO;clear hV hn dY;go_wp2
 go_loop [35] (λi=>∃j:Nat,j<=n/\i=zb .i64 (j:Int)) (λi=>n-(intOf i).toNat)
 case atStart=>exact⟨0,by omega,rfl⟩
 case round=>
  obtain⟨j,hj,rfl⟩:=hrel
  by_cases hlt:j<n
  ·have sf:(j:Int)<(n:Int):=by omega
   have hC:=Th (c:=cc) w2 HV.out (k:=j) (by have:=HN.out;omega) (by have:=HN.out;omega);rw[<-HN.out,bm j (by have:=HN.out;omega)]at hC
   go_wp2_with fail
   refine hC.mono ?_;rintro e w3 ⟨rfl,hw⟩;rw[hw];clear hw w3 hC;go_wp2
   go_round
   case rel=>exact⟨j+1,by omega,by go_num⟩
   case measure=>simp[intOf];omega
  have sf:j=n:=by omega
  subst sf;have tE:Fu l:=λk hk=>HV.out.qG k hk
  have mO:=TP tE (k:=l.length) (aq _);have hC:=SW (c:=cc) w2 HV.out (k:=l.length) (ck:=(j:Int)-1) (aq _) (by have:=HN.out;omega);rw[<-HN.out]at hC mO;have AP:dx l j≠7:=by unfold dx;rw[ab (by omega)];have:=tE (j-1) (by have:=HN.out;omega);omega
  have p1:(pB (dx l j)==40)=decide (dx l j=1):=Ad mO 1 (by omega);have p3:(pB (dx l j)==124)=decide (dx l j=3):=Ad mO 3 (by omega);have p5:(pB (dx l j)==94)=decide (dx l j=5):=Ad mO 5 (by omega);have P1:=ah p1;have P3:=ah p3;have P5:=ah p5;rw[<-HN.out]at ho;have HO:=ah ho;have PU:=ah AP;have GL:((j:Int)==0)=false:=by simp;omega
  clear p1 p3 p5 ho AP tE mO hj hlt;generalize dx l j=PK at *;generalize pB PK=PB at *
  go_wp2_with fail
  refine hC.mono ?_;rintro e w3 ⟨rfl,hw⟩;rw[hw];clear hw w3 hC;have q1:(PB==40)=false:=by rw[P1.out];have:=HO.out;simp[dZ]at this;simp;omega
  have q3:(PB==124)=false:=by rw[P3.out];have:=HO.out;simp[dZ]at this;simp;omega
  have q5:(PB==94)=false:=by rw[P5.out];have:=HO.out;simp[dZ]at this;simp;omega
  have hD:=KO (c:=cc) w2 HV.out (k:=l.length) (ck:=(j:Int)) (aq _) (by have:=HN.out;omega) (by have:=HN.out;omega);rw[<-HN.out]at hD;rw[<-HN.out]at hd;have hTj:T<j:=by have:=HN.out;omega
  generalize aX l j=DD at *;clear hl
  go_wp2_with fail
  refine hD.mono ?_;rintro e w3 ⟨rfl,hw⟩;rw[hw];clear hw w3 hD;go_wp2
  go_loop [11] (λv=>∃k:Nat,T<=k/\k<j/\v=zb .i64 (k:Int)) (λv=>(intOf v).toNat)
  case atStart=>exact⟨j-1,by omega,by omega,by go_num⟩
  case round=>
   obtain⟨k,bO,bu,rfl⟩:=hrel;have X5:(k:Int)<(j:Int):=by omega
   have dY:k<l.length:=by have:=HN.out;omega
   have cs:=HV.out.CD dY;rw[iH]at cs;have e1:(kB (aS l k)==40)=decide (aS l k=1):=Dk (HV.out.qG k dY) 1 (by omega);have hC:=zj1 (c:=cc) w2 HV.out (k:=k) dY (by omega) (by omega) (by have:=HN.out;omega);rw[<-HN.out]at hC
   by_cases hkT:k=T
   ·subst hkT;rw[tF]at cs;have c0:w2.cell? ⟨G,k*5,za⟩=zc (.int .u8 40):=cs;clear cs;have z1:=HV.out.Y4 dY;rw[iH]at z1;generalize ((l.getD k iP).pos:Int)=PP at *;have z2:((w2.setCell ⟨w.heap.size,0,za⟩ (zd za 0 0)).setCell ⟨w.heap.size,1,za⟩ (zb .i64 0)).cell? ⟨G,k*5+1,za⟩=zc (zb .i64 PP):=by
     rw[World.cell?_of_block (w:=w2)]
     ·exact z1
     ·rw[Below.heap_setCell _ _ _ _ (λe=>Ef e.symm),Below.heap_setCell _ _ _ _ (λe=>Ef e.symm)]
    clear e1
    go_wp2_with fail
    refine hC.mono ?_;rintro e w3 ⟨b,rfl,hw,hb⟩;rw[hw];clear hw w3 hC;have vS:b=true:=hb.2 Aw.out;clear hb;subst vS;go_wp2;clear bm cC hS zh tF bO hTj hd c0 Aw HT4 HO PU P1 P3 P5 q1 q3 q5 fO B8
    go_region
    all_goals go_wp2
    all_goals refine aW (v:=.tuple #[zg #[zd za 0 0,zb .i64 0],zb .i64 8,zb .i64 PP]) (by simp[results,results63,go_sem,r0,r1]) rfl ?_
    all_goals first|exact .bad ((dk.setCell (aq _) _).setCell (aq _) _) rfl rfl|exact .bad ((dk.setCell (aq _) _).setCell (aq _) _).drew rfl rfl|exact .bad ((dk.drew.setCell (aq _) _).setCell (aq _) _) rfl rfl
   ·by_cases bQ:aS l k=1
    ·rw[bQ]at cs;have c0:w2.cell? ⟨G,k*5,za⟩=zc (.int .u8 40):=cs;clear cs;have hnu:=HT4.out k (by omega) dY bQ;clear e1
     go_wp2_with fail
     refine hC.mono ?_;rintro e w3 ⟨b,rfl,hw,hb⟩;rw[hw];clear hw w3 hC;have vS:b=false:=by cases aB:b with|false=>rfl|true=>exact absurd (hb.1 aB) hnu
     subst vS;go_wp2
     go_round
     case rel=>exact⟨k-1,by omega,by omega,by go_num⟩
     case measure=>simp[intOf];omega
    ·have o8:(kB (aS l k)==40)=false:=by rw[e1];simpa using bQ
     generalize kB (aS l k)=KB at *;clear hC e1;go_wp2
     go_round
     case rel=>exact⟨k-1,by omega,by omega,by go_num⟩
     case measure=>simp[intOf];omega
variable {B g' lo:Nat}{W:ze}{v:zf}{bs:List dc}{U:Nat -> Prop}{ns:List aC}
def Gb(b:dc)(s:zf):List zf:=[.bool b.bol,.bool b.eol,s]
def xt(bs:List dc)(nv:Nat->zf):List zf:=(List.range bs.length).flatMap λk=>Gb (bs.getD k .zero) (nv k)
theorem zpH(bs:List dc)(nv:Nat->zf){k j:Nat}(hk:k<bs.length)(hj:j<3):(xt bs nv)[k*3+j]?=(Gb (bs.getD k .zero) (nv k))[j]?:=TY (f:=λk=>Gb (bs.getD k .zero) (nv k)) (sz:=3) (λ_=>rfl) _ _ _ hk hj
def oV(B:Nat)(W:ze)(v:zf)(bs:List dc):Prop:=∃nv,W.ownsRow B 115 3 v bs.length (xt bs nv)/\∀k,k<bs.length->fU (λb=>B<=b/\v.ownBlock≠zc b) W (nv k) (bs.getD k .zero).nodes
theorem oV.nil(B:Nat)(W:ze):oV B W (zd za 0 0) []:=⟨λ_=>zd za 0 0,World.ownsRow_nil _ _ _ _,λk h=>absurd h (by simp)⟩
theorem oV.keep{W':ze}(h:oV B W v bs)(hs:W.heap.size<=W'.heap.size)(hk:∀b,B<=b->b<W.heap.size->W'.heap[b]?=W.heap[b]?):oV B W' v bs:=by
 obtain⟨nv,ho,hn⟩:=h;exact⟨nv,ub ho λb hb=>hk b (dU ho hb).1 (dU ho hb).2,λk bu=>(hn k bu).keep hs λb hb hl=>hk b hb.1 hl⟩
theorem oV.push{w':ze}{s:zf}{b:dc}{nv:Nat->zf}{cap':Nat}
  (hn:∀k,k<bs.length->fU (λb=>B<=b/\v.ownBlock≠zc b) W (nv k) (bs.getD k .zero).nodes) (hv:fU (λb=>B<=b/\v.ownBlock≠zc b) W s b.nodes)
  (ho:w'.ownsRow B 115 3 (zd (zc ⟨g',0,za⟩) (bs.length+1) cap') (bs.length+1) (xt bs nv++Gb b s)) (hg:W.grownBy w' v.ownBlock) (fV:v.ownBlock=zc g'\/W.heap.size<=g'):
  oV B w' (zd (zc ⟨g',0,za⟩) (bs.length+1) cap') (bs++[b]):=by
 have key:∀s ns,fU (λb=>B<=b/\v.ownBlock≠zc b) W s ns->fU (λb=>B<=b/\(Value.slice (zc ⟨g',0,za⟩) (bs.length+1) cap').ownBlock≠zc b) w' s ns:=by
  intro s ns h;have h4:fU (λb=>(B<=b/\v.ownBlock≠zc b)/\b<W.heap.size) W s ns:=h.mono λb hb hl=>⟨hb,hl⟩
  have h5:=h4.keep hg.size (λb hb hl=>hg.block b hl (λe=>hb.1.2 e.symm));refine h5.mono λb hb _=>⟨hb.1.1,λe=>?_⟩
  have e2:g'=b:=by simpa [Value.ownBlock]using e
  subst e2;rcases fV with h|h
  ·exact hb.1.2 h
  ·have:=hb.2;omega
 have pR:∀k,k<bs.length->(bs++[b]).getD k .zero=bs.getD k .zero:=λk hk=>by simp[List.getD,List.getElem?_append_left hk]
 have dE:(bs++[b]).getD bs.length .zero=b:=by simp[List.getD]
 refine⟨λk=>if k<bs.length then nv k else s,?_,λk hk=>?_⟩
 ·have:xt (bs++[b]) (λk=>if k<bs.length then nv k else s)=xt bs nv++Gb b s:=by
   unfold xt;rw[aQ,show [b].length=1 from rfl,KU]
   congr 1
   ·exact Ov _ λk hk=>by rw[pR k hk];simp only[af hk]
   ·rw[dE];simp
  rw[this,aQ];exact ho
 ·by_cases e:k<bs.length
  ·rw[pR k e];simp only[af e];exact key _ _ (hn k e)
  ·have e2:k=bs.length:=by simp at hk;omega
   subst e2;rw[dE];simp only[ab e];exact key _ _ hv
theorem gu.at{rs:List (Int×Int)}(h:gu U W v rs)(hU:∀b,U b->lo<=b):nr lo W v rs:=by
 obtain⟨ao,cap,rfl,h1,h2,h3⟩:=h;refine⟨ao,cap,rfl,cY h1 (Ii h2),λh0=>?_⟩;obtain⟨b,rfl,hb,hl,hc⟩:=h3 h0;exact⟨b,0,rfl,hU b hb,hl,λi hi=>⟨by rw[iH];exact hc _ _ (zrh rs i hi).1,by rw[iH];exact hc _ _ (zrh rs i hi).2⟩⟩
theorem fU.at(h:fU U W v ns)(hU:∀b,U b->lo<=b):og lo W v ns:=by
 obtain⟨b,cap,sv,rfl,h1,h2,hb,hl,hc,hr⟩:=h;refine⟨_,cap,rfl,cY h1 (Ii h2),λ_=>⟨b,0,rfl,hU b hb,hl,λi hi=>?_⟩⟩;have hg:=λj (hj:j<5)=>zuy ns sv hi hj
 rw[iH];exact⟨hc _ _ (hg 0 (by omega)),⟨sv i,hc _ _ (hg 1 (by omega)),(hr i hi).at hU⟩,hc _ _ (hg 2 (by omega)),hc _ _ (hg 3 (by omega)),hc _ _ (hg 4 (by omega))⟩
theorem oV.at(h:oV B W v bs)(nJ:lo<=B):iQ lo W v bs:=by
 obtain⟨nv,ho,hn⟩:=h;rcases ho.2 with ⟨rfl,h0⟩|⟨g,cap,aZ,rfl,hg,hh,h1,h2,h3,h4⟩
 ·have:bs=[]:=qV h0;subst this;exact iQ.nil _ _
 ·refine⟨_,cap,rfl,cY h1 (Ii h2),λ_=>⟨g,0,rfl,cY nJ hg,ay hh,λi hi=>?_⟩⟩;have hg:=λj (hj:j<3)=>(ho.cellAt (i*3+j) (by omega)).trans (zpH bs nv hi hj)
  rw[iH];exact⟨hg 0 (by omega),hg 1 (by omega),⟨nv i,hg 2 (by omega),(hn i hi).at λb hb=>cY nJ hb.1⟩⟩
theorem zqB:(prog.info? 115).map (λi=>(i.zero,i.size,i.bytes))=zc (zc (zg #[.bool false,.bool false,zd za 0 0]),3,32):=by kernel_rfl
theorem zkt{ops:Array Oper}{rest:List Oper}{o:Oper}{a:Act}{Q:Exit->Act->ze->Prop}{W0:ze}(fQ:o.guard=za)(s x:Operand)
  (ho:o.op=.call {callee:=.builtin .append,args:=#[s,x],argTypes:=#[99,99]}) (B:Nat) (v nv:zf) (bs:List dc) (b:dc) (hW:W=W0.alloc (zi #[.bool b.bol,.bool b.eol,nv] 115)) (hs:a.eval s=v) (hF:oV B W0 v bs)
  (H:Nat) (hH:W0.heap.size=H) (hx:a.eval x=zd (zc ⟨H,0,za⟩) 1 1) (hv:fU (λb=>B<=b/\v.ownBlock≠zc b) W0 nv b.nodes) (hlen:bs.length<=100000) (hB:B<=W0.heap.size)
  (h:∀g' cap' w',oV B w' (zd (zc ⟨g',0,za⟩) (bs.length+1) cap') (bs++[b])->W0.grownBy w' v.ownBlock->(v.ownBlock=zc g'\/W0.heap.size<=g')->wpList prog ops Q rest (a.put o.dst (zd (zc ⟨g',0,za⟩) (bs.length+1) cap')) w'):
  wpList prog ops Q (o::rest) a W:=by
 obtain⟨iN,ru,rz,rA,rB⟩:=info_parts zqB;obtain⟨pv,bL,hp⟩:=hF;refine wE fQ s x 99 ho W0 #[.bool b.bol,.bool b.eol,nv] 115 hW H hH B iN _ 3 32 underlying99 ru rz rA rB rfl (by omega) v bs.length _ hs bL hx rfl ?_ (by omega) (by omega) hB ?_
 ·intro u hu;obtain⟨b5,cap,sv,rfl,_⟩:=hv;simp at hu;rcases hu with rfl|rfl|rfl<;>rfl
 ·intro g' cap' w' iM cX jW;exact h g' cap' w' (oV.push hp hv iM cX jW) cX jW
theorem zsB{s g n:Nat}{l:List Tok}(h:Gr s g l n ns g'):∀x∈l,x.kind<=4:=by
 induction h with
 |atom hk=>intro x hx;simp at hx;subst hx;omega
 |dX ho _ hc ih=>
  intro x hx;simp at hx;rcases hx with rfl|hx|rfl
  ·omega
  ·exact ih x hx
  ·omega
 |bare _ ih=>exact ih
 |jI _ hr ih=>
  intro x hx;simp at hx;rcases hx with hx|rfl
  ·exact ih x hx
  ·omega
 |one _ ih=>exact ih
 |more _ _ kD jg=>intro x hx;rcases gH.1 hx with h|h;exact kD x h;exact jg x h
 |eH _ ih=>exact ih
 |alts _ hb _ kD jg=>
  intro x hx;simp at hx;rcases hx with hx|rfl|hx
  ·exact kD x hx
  ·omega
  ·exact jg x hx
end Go.Proofs.YtfajjdgkiilhfaaGreatDoor
