import Derived.Test.YtfajjdgkiilhfaaC22
import Derived.Test.YtfajjdgkiilhfaaC44
import Derived.Deep.Cut
import Derived.Deep.CutRange
namespace Go.Proofs.Ytfajjdgkiilhfaa
open Proofs.Try
open Option renaming none->za,some->zi
open Value renaming int->zh,slice->zn,agg->zx
open Go renaming World->zp,Value->zw,Calls->zB
open Obj renaming cells->zy
set_option maxHeartbeats 4000000
set_option maxRecDepth 100000
open Go.RowKit
attribute [local go_sem ↓] wp_at_zero wp_at_succ
section
variable {s g n g':Nat}{l:List Tok}{ns:List aI}{b:cX}{bs:List cX}
theorem Gd:∀(a b:List aI) (d e:Nat),gD a d=zi e->gD (a++b) d=gD b e
 |[],b,d,e,h=>by cases h;rfl
 |n::a,b,d,e,h=>by
  show (if d<aV n.kind then za else gD (a++b) (d-aV n.kind+1))=_;unfold gD at h;split at h
  ·cases h
  ·rename_i hn
   rw[ab hn];exact Gd a b _ _ h
theorem TE(n:aI)(hn:aV n.kind=2):∀(m d:Nat),gD (List.replicate m n) (d+m+1)=zi (d+1)
 |0,d=>rfl
 |m+1,d=>by
  rw[List.replicate_succ];show (if d+(m+1)+1<aV n.kind then za else gD (List.replicate m n) (d+(m+1)+1-aV n.kind+1))=_;rw[hn,ab (by omega),show d+(m+1)+1-2+1=d+m+1 by omega,TE n hn m d]
theorem zsr(h:Gr s g l n ns g'):∀d,gD ns d=zi (d+(if s<2 then 1 else n)):=by
 induction h with
 |atom hk=>intro d;rfl
 | @aH g g' n o c l ns ho _ hc ih=>
  intro d;rw[ae (by omega)];have h1:=ih d;rw[ab (by omega)]at h1;have h2:=Gd ns (List.replicate n Hi) d _ h1;rw[show d+(n+1)=d+n+1 by omega,TE Hi rfl n d]at h2;rw[Gd _ _ d _ h2];show (if d+1<aV 5 then za else gD [] (d+1-aV 5+1))=_;rw[show aV 5=1 from rfl,ab (by omega)]
  rfl
 |bare _ ih=>intro d;exact ih d
 |jX _ hr ih=>
  intro d;have h1:=ih d;rw[ae (by omega)]at h1 ⊢;rw[Gd _ _ d _ h1];show (if d+1<aV 4 then za else gD [] (d+1-aV 4+1))=_;rw[show aV 4=1 from rfl,ab (by omega)]
  rfl
 |one _ ih=>intro d;exact ih d
 | @more g g1 g2 n l m ns ms _ _ kK jt=>
  intro d;have h1:=kK d;rw[ae (by omega)]at h1;rw[Gd _ _ d _ h1,jt (d+1),ab (by omega),ab (by omega)]
  congr 1
  omega
 | @eA g g' n l ns _ ih=>
  intro d;have h1:=ih d;rw[ab (by omega)]at h1 ⊢;rw[Gd _ _ d _ h1,show d+(n+1)=d+n+1 by omega,TE uk rfl n d]
 | @alts g g1 g2 n k l m b ns ms _ hb _ kK jt=>
  intro d;have h1:=kK d;rw[ab (by omega)]at h1 ⊢;have h2:=Gd ns (List.replicate n uk) d _ h1;rw[show d+(n+1)=d+n+1 by omega,TE uk rfl n d]at h2;rw[Gd _ _ d _ h2,jt (d+1),ab (by omega)]
  congr 1
  omega
def JJ(l:List (Int×Int)):Int:=(l.getLast?.map (·.2)).getD (-2)
theorem ze8:∀(l:List (Int×Int)) (least a b:Int),qb least l=true->(l=[]->least<=a)->(l≠[]->JJ l+2<=a)->a<=b->b<=255->qb least (l++[(a,b)])=true
 |[],least,a,b,_,h1,_,h3,h4=>by
  show (if a<least\/b<a\/255<b then false else true)=true;have:=h1 rfl;rw[ab (by omega)]
 |(x,y)::l,least,a,b,h,_,h2,h3,h4=>by
  show (if x<least\/y<x\/255<y then false else qb (y+2) (l++[(a,b)]))=true;unfold qb at h;split at h
  ·cases h
  ·rename_i hn
   rw[ab hn];refine ze8 l (y+2) a b h (λe=>?_) (λe=>?_) h3 h4
   ·subst e;have:=h2 (by simp)
    simpa [JJ]using this
   ·have:=h2 (by simp);cases l with
    |nil=>exact absurd rfl e
    |cons c l=>simpa [JJ,List.getLast?_cons_cons]using this
theorem zhm:∀(l:List (Int×Int)) (least a b c:Int),qb least (l++[(a,b)])=true->b<=c->c<=255->qb least (l++[(a,c)])=true
 |[],least,a,b,c,h,h1,h2=>by
  have h:(if a<least\/b<a\/255<b then false else true)=true:=h;show (if a<least\/c<a\/255<c then false else true)=true;split at h
  ·cases h
  ·rw[ab (by omega)]
 |(x,y)::l,least,a,b,c,h,h1,h2=>by
  have h:(if x<least\/y<x\/255<y then false else qb (y+2) (l++[(a,b)]))=true:=h;show (if x<least\/y<x\/255<y then false else qb (y+2) (l++[(a,c)]))=true;split at h
  ·cases h
  ·rename_i hn
   rw[ab hn];exact zhm l (y+2) a b c h h1 h2
theorem ziG(l:List (Int×Int))(a b:Int):JJ (l++[(a,b)])=b:=by simp[JJ]
theorem zpA(f:Nat->Bool):∀c,c<=256->qb 0 (iF f c)=true/\(iF f c≠[]->JJ (iF f c)<c/\((0<c/\f (c-1)=true)\/JJ (iF f c)+1<c))
 |0,_=>⟨rfl,λh=>absurd rfl h⟩
 |c+1,hc=>by
  obtain⟨h1,h2⟩:=zpA f c (by omega);cases hf:f c with
  |false=>
   rw[zpz hf];refine⟨h1,λh=>?_⟩;have:=h2 h;omega
  |true=>
   by_cases hp:0<c/\f (c-1)=true
   ·obtain⟨l,a,hl⟩:=zkJ f (c-1) hp.2;rw[show c-1+1=c by omega]at hl;rw[zpB hf hp hl];rw[hl]at h1;refine⟨zhm l 0 a _ _ h1 (by omega) (by omega),λ_=>?_⟩;rw[ziG,show c+1-1=c by omega];exact⟨by omega,.inl ⟨by omega,hf⟩⟩
   ·rw[zjs hf hp];refine⟨ze8 _ 0 _ _ h1 (λ_=>by omega) (λe=>?_) (Int.le_refl _) (by omega),λ_=>?_⟩
    ·have:=(h2 e).2;rcases this with h|h
     ·exact absurd h hp
     ·omega
    ·rw[ziG,show c+1-1=c by omega];exact⟨by omega,.inl ⟨by omega,hf⟩⟩
def uO(x:Tok):Prop:=x.kind=4->ly x.mn x.mx=true
theorem zpa(f:Nat->Bool):bG (Pp f)=true:=by simp[bG,Pp,(zpA f 256 (Nat.le_refl _)).1]
theorem zlb{p:aI->Bool}{n:aI}(h:p n=true)(m:Nat):(List.replicate m n).all p=true:=by simp[List.all_replicate,h]
theorem ztP(h:Gr s g l n ns g')(ht:∀x∈l,uO x):ns.all bG=true:=by
 induction h with
 |atom hk=>simp[zpa]
 |aH ho _ hc ih=>
  rw[vG,vG,ih λx hx=>ht x (by simp[hx]),zlb (by decide)];simp[bG,KE]
 |bare _ ih=>exact ih ht
 |jX _ hr ih=>
  rw[vG,ih λx hx=>ht x (by simp[hx])];have:=ht _ (by simp) hr;simp[bG,Jj,this]
 |one _ ih=>exact ih ht
 |more _ _ kK jt=>rw[vG,kK λx hx=>ht x (by simp[hx]),jt λx hx=>ht x (by simp[hx])];rfl
 |eA _ ih=>rw[vG,ih ht,zlb (by decide)];rfl
 |alts _ hb _ kK jt=>rw[vG,vG,kK λx hx=>ht x (by simp[hx]),zlb (by decide),jt λx hx=>ht x (by simp[hx])];rfl
theorem ztt(h:Gr s g l n ns g'):∀x∈ns,x.set.length<=256:=by
 induction h with
 |atom hk=>intro x hx;simp at hx;subst hx;exact zjr _ 256
 |aH ho _ hc ih=>
  intro x hx;simp only[gH,List.mem_replicate,vF]at hx;rcases hx with (hx|⟨_,rfl⟩)|rfl
  ·exact ih x hx
  ·simp[Hi]
  ·simp[KE]
 |bare _ ih=>exact ih
 |jX _ hr ih=>
  intro x hx;simp only[gH,vF]at hx;rcases hx with hx|rfl
  ·exact ih x hx
  ·simp[Jj]
 |one _ ih=>exact ih
 |more _ _ kK jt=>intro x hx;rcases gH.1 hx with h|h;exact kK x h;exact jt x h
 |eA _ ih=>
  intro x hx;simp only[gH,List.mem_replicate]at hx;rcases hx with hx|⟨_,rfl⟩
  ·exact ih x hx
  ·simp[uk]
 |alts _ hb _ kK jt=>
  intro x hx;simp only[gH,List.mem_replicate]at hx;rcases hx with (hx|⟨_,rfl⟩)|hx
  ·exact kK x hx
  ·simp[uk]
  ·exact jt x hx
theorem zr7(h:Br g l b g'):∃t,CA g t b.nodes g'/\((b.bol=false/\b.eol=false/\l=t)\/(∃x:Tok,x.kind=5/\b.bol=true/\b.eol=false/\l=x::t)\/(∃y:Tok,y.kind=6/\b.bol=false/\b.eol=true/\l=t++[y])\/∃x y:Tok,x.kind=5/\y.kind=6/\b.bol=true/\b.eol=true/\l=x::(t++[y])):=by
 cases h with
 |none h=>exact⟨_,⟨_,_,h,rfl⟩,.inl ⟨rfl,rfl,rfl⟩⟩
 |bol hx h=>exact⟨_,⟨_,_,h,rfl⟩,.inr (.inl ⟨_,hx,rfl,rfl,rfl⟩)⟩
 |eol hy h=>exact⟨_,⟨_,_,h,rfl⟩,.inr (.inr (.inl ⟨_,hy,rfl,rfl,rfl⟩))⟩
 |both hx hy h=>exact⟨_,⟨_,_,h,rfl⟩,.inr (.inr (.inr ⟨_,_,hx,hy,rfl,rfl,rfl⟩))⟩
theorem CA.ok{t:List Tok}{N:List aI}(h:CA g t N g')(ht:∀x∈t,uO x):kP N=true/\N.all bG=true/\N.length<=2*t.length/\0<N.length/\∀x∈N,x.set.length<=256:=by
 obtain⟨n,ns,hG,rfl⟩:=h;have h3:=Gr.eA hG;have h1:=zsr h3 0;rw[ab (by omega)]at h1;have h2:=(UH h3).2 (by omega);exact⟨by unfold kP;rw[h1];rfl,ztP h3 ht,by omega,Ug h3,ztt h3⟩
theorem zli(h:Br g l b g'):rO l/\mD l/\l≠[]/\g'=g+cZ l l.length:=by
 obtain⟨t,⟨n,ns,hG,_⟩,h⟩:=zr7 h;have e1:=zoN hG (by omega);have e2:=JB hG;have e3:=zoO hG;have ox:∀x:Tok,x.kind=5\/x.kind=6->rO [x]/\mD [x]/\cZ [x] [x].length=0:=λx hx=>⟨.one (by omega),.one (by omega) (by omega),by rw[show [x].length=1 from rfl,A5,ab (by omega)]⟩
 rcases h with ⟨_,_,rfl⟩|⟨x,hx,_,_,rfl⟩|⟨y,hy,_,_,rfl⟩|⟨x,y,hx,hy,_,_,rfl⟩
 ·exact⟨e1,e2,xG hG,e3⟩
 ·obtain⟨a,b,c⟩:=ox x (.inl hx);refine⟨a.app b e1,mD.app b e2,by simp,?_⟩;rw[show x::t=[x]++t from rfl,rN];omega
 ·obtain⟨a,b,c⟩:=ox y (.inr hy);refine⟨e1.app e2 a,e2.app b,by simp,?_⟩;rw[rN];omega
 ·obtain⟨a,b,c⟩:=ox x (.inl hx);obtain⟨a2,b2,c2⟩:=ox y (.inr hy);refine⟨a.app b (e1.app e2 a2),mD.app b (e2.app b2),by simp,?_⟩;rw[show x::(t++[y])=[x]++(t++[y]) from rfl,rN,rN];omega
theorem ztF(h:Rl g l bs g'):∃ts,Bj l ts/\ts.length=bs.length/\(∀t∈ts,rO t/\mD t/\t≠[])/\0<bs.length/\bs.length<=l.length/\g'=g+cZ l l.length/\
  ∀k,k<bs.length->∃a t c,l=a++(t++c)/\(ja 0 ts).getD k (0,0)=(a.length,a.length+t.length)/\∃g2,Br (g+cZ a a.length) t (bs.getD k .zero) g2:=by
 induction h with
 | @one g g' l b h=>
  obtain⟨e1,e2,e3,e4⟩:=zli h;refine⟨[l],.one l,rfl,λt ht=>by simp at ht;subst ht;exact⟨e1,e2,e3⟩,by simp,by simp;exact qh.2 e3,e4,λk hk=>?_⟩;have:k=0:=by simpa using hk
  subst this;exact⟨[],l,[],by simp,by simp[ja],g',by simpa [cZ]using h⟩
 | @more g g1 g2 l m b x bs h hx _ ih=>
  obtain⟨ts,i1,i2,i3,i4,i5,i6,i7⟩:=ih;obtain⟨e1,e2,e3,e4⟩:=zli h;refine⟨l::ts,.more hx i1,by simp[i2],λt ht=>?_,by simp,by simp;omega,?_,λk hk=>?_⟩
  ·simp at ht;rcases ht with rfl|ht
   ·exact⟨e1,e2,e3⟩
   ·exact i3 t ht
  ·rw[show l++x::m=l++([x]++m) from rfl,rN,rN,show [x].length=1 from rfl,A5,ab (by omega)];omega
  ·cases k with
   |zero=>exact⟨[],l,x::m,by simp,by simp[ja],g1,by simpa [cZ]using h⟩
   |succ k=>
    obtain⟨a,t,c,j1,j2,g3,j3⟩:=i7 k (by simpa using hk);refine⟨l++x::a,t,c,by rw[j1];simp,?_,g3,?_⟩
    ·show (ja (0+l.length+1) ts).getD k (0,0)=_;rw[jB,show ja (l.length+1) ts=ja (l.length+1+0) ts from rfl,TX];have cY:k<(ja 0 ts).length:=by rw[Uj,i2];simpa using hk
     rw[bI,bE cY]at j2;rw[bI,vE,bE cY];have j2:(ja 0 ts)[k]=(a.length,a.length+t.length):=j2;rw[j2];simp[Jk];omega
    ·have:g+cZ (l++x::a) (l++x::a).length=g1+cZ a a.length:=by
      rw[show l++x::a=l++([x]++a) from rfl,rN,rN,show [x].length=1 from rfl,A5,ab (by omega)];omega
     rw[this];exact j3
theorem zq5{l:List aI}{j:Nat}(h:j<l.length):l.getD j .zero∈l:=by
 rw[bI,bE h];exact gy _
theorem zrW(h:Rl g l bs g')(ht:∀x∈l,uO x)(hl:l.length<=2000):qM bs/\Small bs:=by
 obtain⟨ts,_,_,_,_,h5,_,h7⟩:=ztF h;have key:∀k,k<bs.length->kP (bs.getD k .zero).nodes=true/\(bs.getD k .zero).nodes.all bG=true/\(bs.getD k .zero).nodes.length<=4000/\∀x∈(bs.getD k .zero).nodes,x.set.length<=256:=by
  intro k hk;obtain⟨a,t,c,e,_,g2,hB⟩:=h7 k hk;obtain⟨u,hA,hu⟩:=zr7 hB;have hut:∀x∈u,uO x:=by
   intro x hx;refine ht x ?_;rw[e];rcases hu with ⟨_,_,rfl⟩|⟨x,hx,_,_,rfl⟩|⟨y,hy,_,_,rfl⟩|⟨x,y,hx,hy,_,_,rfl⟩<;>simp_all
  have hul:u.length<=2000:=by
   have h1:=congrArg List.length e;simp at h1;rcases hu with ⟨_,_,rfl⟩|⟨x,hx,_,_,rfl⟩|⟨y,hy,_,_,rfl⟩|⟨x,y,hx,hy,_,_,rfl⟩<;>(try simp at h1)<;>omega
  obtain⟨a1,a2,a3,_,a5⟩:=hA.ok hut;exact⟨a1,a2,by omega,a5⟩
 refine⟨λk hk=>⟨(key k hk).1,(key k hk).2.1⟩,by omega,λk hk=>⟨by have:=(key k hk).2.2.1;omega,λj hj=>?_⟩⟩;have:=(key k hk).2.2.2 _ (zq5 hj);omega
end
section
variable {s:List UInt8}{i:Nat}
theorem zkd{l:List UInt8}{m n:Int}{k:Nat}(h:nS l=zi (m,n,k)):ly m n=true:=by
 unfold nS at h;split at h
 ·cases h
 ·split at h
  ·split at h
   ·cases h
   ·rename_i a ha
    cases h
    have:=Mc ha;simp[ly];omega
  ·split at h
   ·cases h
   ·rename_i a ha
    have h1:=Mc ha;split at h
    ·cases h;simp[ly];omega
    ·split at h
     ·cases h
     ·rename_i b hb
      have h2:=Mc hb;split at h
      ·cases h;simp[ly];omega
      ·cases h
theorem zta{j:Nat}{x:Tok}(h:fL s i=.inr (x,j)):uO x:=by
 intro hk;unfold fL at h
 by_cases EY:aA s i=94
 ·rw[ae EY]at h;cases h;simp at hk
 rw[ab EY]at h
 by_cases EO:aA s i=36
 ·rw[ae EO]at h;cases h;simp at hk
 rw[ab EO]at h
 by_cases EP:aA s i=40
 ·rw[ae EP]at h;cases h;simp at hk
 rw[ab EP]at h
 by_cases EQ:aA s i=41
 ·rw[ae EQ]at h;cases h;simp at hk
 rw[ab EQ]at h
 by_cases EN:aA s i=124
 ·rw[ae EN]at h;cases h;simp at hk
 rw[ab EN]at h
 by_cases ER:aA s i=42
 ·rw[ae ER]at h;cases h;rfl
 rw[ab ER]at h
 by_cases ES:aA s i=43
 ·rw[ae ES]at h;cases h;rfl
 rw[ab ES]at h
 by_cases EU:aA s i=63
 ·rw[ae EU]at h;cases h;rfl
 rw[ab EU]at h
 by_cases EM:aA s i=123
 ·rw[ae EM]at h;cases hf:nS (s.drop (i+1)) with
  |none=>rw[hf]at h;cases h
  |some q=>obtain⟨m,n,k⟩:=q;rw[hf]at h;cases h;exact zkd hf
 rw[ab EM]at h
 by_cases EW:aA s i=91
 ·rw[ae EW]at h;cases hf:sV (s.drop (i+1)) with
  |none=>rw[hf]at h;cases h
  |some q=>rw[hf]at h;cases h;simp at hk
 rw[ab EW]at h
 by_cases ET:aA s i=46
 ·rw[ae ET]at h;cases h;simp at hk
 rw[ab ET]at h
 by_cases EX:aA s i=92
 ·rw[ae EX]at h;cases hf:D3 (aA s (i+1)) with
  |false=>rw[hf,ab (by decide)]at h;cases h
  |true=>rw[hf,ae rfl]at h;cases h;simp at hk
 rw[ab EX]at h;cases h;simp at hk
theorem zpX{c:Int}(h:fL s i=.inl c):c=2\/c=3\/c=4:=by
 unfold fL at h
 by_cases EY:aA s i=94
 ·rw[ae EY]at h;cases h
 rw[ab EY]at h
 by_cases EO:aA s i=36
 ·rw[ae EO]at h;cases h
 rw[ab EO]at h
 by_cases EP:aA s i=40
 ·rw[ae EP]at h;cases h
 rw[ab EP]at h
 by_cases EQ:aA s i=41
 ·rw[ae EQ]at h;cases h
 rw[ab EQ]at h
 by_cases EN:aA s i=124
 ·rw[ae EN]at h;cases h
 rw[ab EN]at h
 by_cases ER:aA s i=42
 ·rw[ae ER]at h;cases h
 rw[ab ER]at h
 by_cases ES:aA s i=43
 ·rw[ae ES]at h;cases h
 rw[ab ES]at h
 by_cases EU:aA s i=63
 ·rw[ae EU]at h;cases h
 rw[ab EU]at h
 by_cases EM:aA s i=123
 ·rw[ae EM]at h;cases hf:nS (s.drop (i+1)) with
  |none=>rw[hf]at h;cases h;omega
  |some q=>rw[hf]at h;cases h
 rw[ab EM]at h
 by_cases EW:aA s i=91
 ·rw[ae EW]at h;cases hf:sV (s.drop (i+1)) with
  |none=>rw[hf]at h;cases h;omega
  |some q=>rw[hf]at h;cases h
 rw[ab EW]at h
 by_cases ET:aA s i=46
 ·rw[ae ET]at h;cases h
 rw[ab ET]at h
 by_cases EX:aA s i=92
 ·rw[ae EX]at h;cases hf:D3 (aA s (i+1)) with
  |false=>rw[hf,ab (by decide)]at h;cases h;omega
  |true=>rw[hf,ae rfl]at h;cases h
 rw[ab EX]at h;cases h
theorem Gh(s:List UInt8):∀(M i:Nat) (l:List Tok),s.length-i<=M->(∀x∈l,uO x/\x.kind<7)->l.length<=i->l.length<=s.length->(∀x∈(kL s i l).1,uO x/\x.kind<7)/\(kL s i l).1.length<=s.length/\((kL s i l).2.1=0->(kL s i l).2.2=0)
 |M,i,l,hM,h,hl,dT=>by
  by_cases hi:i<s.length
  ·cases ht:fL s i with
   |inl c=>
    rw[Ju hi ht];refine⟨h,dT,λe=>?_⟩;have hc:=zpX ht;have e:c=0:=e;omega
   |inr q=>
    obtain⟨x,j⟩:=q;rw[zmz hi ht];have h2:=T6 ht
    match M,hM with
    |0,hM=>omega
    |M+1,hM=>
     refine Gh s M j (l++[x]) (by omega) (λy hy=>?_) (by simp;omega) (by simp;omega);rcases gH.1 hy with hy|hy
     ·exact h y hy
     ·simp at hy;subst hy;exact⟨zta ht,h2.2.1⟩
  ·rw[zje hi];exact⟨h,dT,λ_=>rfl⟩
inductive A7 (s:List UInt8):dC->Int->Int->Prop
 |ZQ:2000<s.length->A7 s .zero 1 2000
 |lex {l:List Tok} {c:Int} {i:Nat}:s.length<=2000->kL s 0 []=(l,c,i)->c≠0->A7 s .zero c (i:Int)
 |fault {l:List Tok} {k:Nat}:s.length<=2000->kL s 0 []=(l,0,0)->k<l.length->(∀j,j<k->lu l j=0)->lu l k≠0->A7 s .zero (lu l k) ((l.getD k jb).pos:Int)
 |op {l:List Tok}:s.length<=2000->kL s 0 []=(l,0,0)->(∀j,j<l.length->lu l j=0)->dO (dn l l.length)->A7 s .zero 6 (s.length:Int)
 |opn {l:List Tok}:s.length<=2000->kL s 0 []=(l,0,0)->(∀j,j<l.length->lu l j=0)->¬dO (dn l l.length)->0<bA l l.length->A7 s .zero 8 ((l.getD ((fI l l.length).getD ((fI l l.length).length-1) 0) jb).pos:Int)
 |Yu {l:List Tok} {bs:List cX} {g:Nat}:s.length<=2000->kL s 0 []=(l,0,0)->(∀j,j<l.length->lu l j=0)->¬dO (dn l l.length)->bA l l.length=0->Rl 0 l bs g->2000<gE bs->A7 s .zero 10 0
 |C5 {l:List Tok} {bs:List cX} {g:Nat}:s.length<=2000->kL s 0 []=(l,0,0)->(∀j,j<l.length->lu l j=0)->¬dO (dn l l.length)->bA l l.length=0->Rl 0 l bs g->gE bs<=2000->A7 s ⟨bs,(g:Int)⟩ 0 0
theorem zgO(l:List Tok):∀n,(∀j,j<n->lu l j=0)\/∃k,k<n/\(∀j,j<k->lu l j=0)/\lu l k≠0
 |0=>.inl λj h=>absurd h (by omega)
 |n+1=>by
  rcases zgO l n with h|⟨k,h1,h2,h3⟩
  ·by_cases e:lu l n=0
   ·left
    intro j hj
    by_cases e2:j=n
    ·subst e2;exact e
    ·exact h j (by omega)
   ·exact .inr ⟨n,by omega,h,e⟩
  ·exact .inr ⟨k,by omega,h2,h3⟩
theorem zfF(s:List UInt8):∃r c a,A7 s r c a:=by
 by_cases h0:2000<s.length
 ·exact⟨_,_,_,.ZQ h0⟩
 have h0:s.length<=2000:=by omega
 obtain⟨l,c,i,hl⟩:∃l c i,kL s 0 []=(l,c,i):=⟨_,_,_,rfl⟩;obtain⟨k1,k2,k3⟩:=Gh s s.length 0 [] (by omega) (by simp) (by simp) (by simp);rw[hl]at k1 k2 k3
 by_cases hc:c=0
 case neg=>exact⟨_,_,_,.lex h0 hl hc⟩
 have hi:i=0:=k3 hc;subst hc hi;rcases zgO l l.length with hf|⟨k,h1,h2,h3⟩
 case inr=>exact⟨_,_,_,.fault h0 hl h1 h2 h3⟩
 by_cases ho:dO (dn l l.length)
 ·exact⟨_,_,_,.op h0 hl hf ho⟩
 have I:=Tq l l.length hf
 by_cases hd:bA l l.length=0
 case neg=>exact⟨_,_,_,.opn h0 hl hf ho (by have:=I.len;omega)⟩
 have hK:Gl l:=λk hk=>by
  have:=(k1 (l.getD k jb) (by rw[bI,bE hk];exact gy _)).2;exact this
 obtain⟨bs,g,hR⟩:=zsL hK hf ho hd
 by_cases hw:2000<gE bs
 ·exact⟨_,_,_,.Yu h0 hl hf ho hd hR hw⟩
 ·exact⟨_,_,_,.C5 h0 hl hf ho hd hR (by omega)⟩
theorem mH.to{B:Nat}{W:zp}{sv:zw}{l:List Tok}{q:Nat->Nat}(h:mH B W sv l q)(hk:∀x∈l,uO x/\x.kind<7)(h0:0<l.length):∃G c,sv=zn (zi ⟨G,0,za⟩) l.length c/\gK W G 0 0 l q/\l.length<=c/\c<=9223372036854775807:=by
 have ff:=h.row;rcases h.row.2 with ⟨_,h1⟩|⟨g,cap,a9,rfl,hg,hh,h1,h2,h3,h4⟩
 ·omega
 ·refine⟨g,cap,rfl,⟨az hh,λk hk j hj=>?_,λk hk h0=>(h.set k hk h0).2.2,λk bJ=>?_⟩,h1,Jr h2⟩
  ·rw[jB,ff.cellAt (k*5+j) (by omega)];exact zrw l q hk hj
  ·exact(hk (l.getD k jb) (by rw[bI,bE bJ];exact gy _)).2
def Bz(w:zp)(r:dC)(c a:Int)(e:Ending)(w':zp):Prop:=Below w.heap.size w w'/\∃v,e=.returned (.tuple #[zx #[v,zh .i64 r.jT],zh .i64 c,zh .i64 a])/\jd w.heap.size w' v r.branches
theorem jd.nil(lo:Nat)(w:zp):jd lo w (zn za 0 0) []:=⟨za,0,rfl,by simp,λh=>absurd h (by simp)⟩
end
section
variable {w:zp}
theorem Bz.bad{w':zp}(hb:Below w.heap.size w w'){c a c' a':Int}(hc:c'=c)(ha:a'=a):Bz w .zero c a (.returned (.tuple #[zx #[zn za 0 0,zh .i64 0],zh .i64 c',zh .i64 a'])) w':=by
 subst hc ha;exact⟨hb,_,rfl,jd.nil _ _⟩
theorem jZ{g:Nat}{a b:zw}{t:TypeId}(h:w.heap[g]?=zi (zy #[a,b] t (0,0))):w.cell? ⟨g,0,za⟩=zi a/\w.cell? ⟨g,1,za⟩=zi b/\w.frozen? ⟨g,0,za⟩=false/\w.frozen? ⟨g,1,za⟩=false:=
 ⟨kr h 0,kr h 1,aR _ _ _ _ _ h,aR _ _ _ _ _ h⟩
theorem zhY(t:ByteArray)(w:zp)(h:2000<t.size):
  zB prog 48 #[.string t] w (Bz w .zero 1 2000):=by
 have h1:(2000:Int)<(t.size:Int):=by omega
 go_enter func48,ntmps48
 go_wp2;refine bw (v:=.tuple #[zx #[zn za 0 0,zh .i64 0],zh .i64 1,zh .i64 2000]) (by simp[results,results48,go_sem]) rfl ?_;exact .bad (aC) rfl rfl
theorem zjx(t:ByteArray)(w:zp)(hs:t.size<=2000){l:List Tok}{c:Int}{i:Nat}(hl:kL t.data.toList 0 []=(l,c,i))(hc:c≠0):
  zB prog 48 #[.string t] w (Bz w .zero c (i:Int)):=by
 have h1:¬(2000:Int)<(t.size:Int):=by omega
 have hk:=Gh t.data.toList t.data.toList.length 0 [] (by omega) (by simp) (by simp) (by simp);rw[hl]at hk;obtain⟨cI,cY,_⟩:=hk;have hsz:t.data.toList.length=t.size:=jf;have SK:l.length<=t.data.toList.length:=cY;have cI:∀x∈l,uO x/\x.kind<7:=cI;have cY:l.length<=2000:=by omega
 clear hsz
 go_enter func48,ntmps48
 go_wp2_with fail
 obtain⟨W1,bk⟩:∃W1,W1=w.alloc (zy #[zn za 0 0,zh .i64 0] 89):=⟨_,rfl⟩;have hP:W1.heap[w.heap.size]?=zi (zy #[zn za 0 0,zh .i64 0] 89 (0,0)):=by rw[bk];exact aU _ _
 have dh:Below w.heap.size w W1:=by rw[bk];exact aC
 rw[<-bk];clear bk;refine(PV t W1 (by omega)).mono ?_;rw[hl];rintro e w2 ⟨aL,sv,q,rfl,hS⟩;have eJ:=aY hP aL;have bN:=bi dh dh.size aL;have hS:mH W1.heap.size w2 sv l q:=hS;have HS:=ah hS;have tH:=ah cI;have Dc:=hP;clear hP hS cI;have kH:(c != 0)=true:=by simpa using hc
 obtain⟨r0,r1,f0,f1⟩:=jZ eJ;go_wp2;refine bw (v:=.tuple #[zx #[zn za 0 0,zh .i64 0],zh .i64 c,zh .i64 i]) (by simp[results,results48,go_sem,r0,r1]) rfl ?_;exact .bad ((bN.setCell (by simp) _).setCell (by simp) _) rfl rfl
theorem zhx(t:ByteArray)(w:zp)(hs:t.size<=2000){l:List Tok}{k:Nat}(hl:kL t.data.toList 0 []=(l,0,0))(tY:k<l.length)(cj:∀j,j<k->lu l j=0)(hf:lu l k≠0):
  zB prog 48 #[.string t] w (Bz w .zero (lu l k) ((l.getD k jb).pos:Int)):=by
 have h0:0<l.length:=by omega
 have h1:¬(2000:Int)<(t.size:Int):=by omega
 have hk:=Gh t.data.toList t.data.toList.length 0 [] (by omega) (by simp) (by simp) (by simp);rw[hl]at hk;obtain⟨cI,cY,_⟩:=hk;have hsz:t.data.toList.length=t.size:=jf;have SK:l.length<=t.data.toList.length:=cY;have cI:∀x∈l,uO x/\x.kind<7:=cI;have cY:l.length<=2000:=by omega
 clear hsz
 go_enter func48,ntmps48
 go_wp2_with fail
 obtain⟨W1,bk⟩:∃W1,W1=w.alloc (zy #[zn za 0 0,zh .i64 0] 89):=⟨_,rfl⟩;have hP:W1.heap[w.heap.size]?=zi (zy #[zn za 0 0,zh .i64 0] 89 (0,0)):=by rw[bk];exact aU _ _
 have dh:Below w.heap.size w W1:=by rw[bk];exact aC
 rw[<-bk];clear bk;refine(PV t W1 (by omega)).mono ?_;rw[hl];rintro e w2 ⟨aL,sv,q,rfl,hS⟩;have eJ:=aY hP aL;have bN:=bi dh dh.size aL;have hS:mH W1.heap.size w2 sv l q:=hS;have HS:=ah hS;have tH:=ah cI;have Dc:=hP;clear hP hS cI;have hG:=HS.out.to tH.out h0;obtain⟨G,cc,rfl,hV,nK,dN⟩:=hG;have E7:w.heap.size≠G:=by have h1:W1.heap.size<=G:=(dL HS.out.row rfl).1;have:=az Dc;omega
 have HV:=ah hV;obtain⟨n,hn⟩:∃n,n=l.length:=⟨_,rfl⟩;have fc:n<=2000:=by omega
 have Dv:0<n:=by omega
 have nL:(n:Int)<=(cc:Int):=by omega
 have Am:(cc:Int)<=9223372036854775807:=by omega
 have HN:=ah hn;rw[<-hn];obtain⟨r0,r1,f0,f1⟩:=jZ eJ;clear hV hn cY;go_wp2
 go_loop [35] (λi=>∃j:Nat,j<=k/\i=zh .i64 (j:Int)) (λi=>k-(intOf i).toNat)
 case atStart=>exact⟨0,by omega,rfl⟩
 case round=>
  obtain⟨j,hj,rfl⟩:=hrel;have k7:k<n:=by have:=HN.out;omega
  have rq:(j:Int)<(n:Int):=by omega
  have hC:=TV (c:=cc) w2 HV.out (k:=j) (by have:=HN.out;omega) (by have:=HN.out;omega);rw[<-HN.out]at hC
  by_cases hlt:j<k
  ·rw[cj j hlt]at hC
   go_wp2_with fail
   refine hC.mono ?_;rintro e w3 ⟨rfl,hw⟩;rw[hw];clear hw w3 hC;go_wp2
   go_round
   case rel=>exact⟨j+1,by omega,by go_num⟩
   case measure=>simp[intOf];omega
  ·have po:j=k:=by omega
   subst po;have z1:=HV.out.Z6 tY;rw[jB]at z1;generalize lu l j=F at *;generalize ((l.getD j jb).pos:Int)=PP at *;have hFb:(F != 0)=true:=by simpa using hf
   have z2:((w2.setCell ⟨w.heap.size,0,za⟩ (zn za 0 0)).setCell ⟨w.heap.size,1,za⟩ (zh .i64 0)).cell? ⟨G,j*5+1,za⟩=zi (zh .i64 PP):=by
    rw[World.cell?_of_block (w:=w2)]
    ·exact z1
    ·rw[Below.heap_setCell _ _ _ _ (λe=>E7 e.symm),Below.heap_setCell _ _ _ _ (λe=>E7 e.symm)]
   go_wp2_with fail
   refine hC.mono ?_;rintro e w3 ⟨rfl,hw⟩;rw[hw];clear hw w3 hC;go_wp2
   go_region
   all_goals go_wp2
   all_goals refine bw (v:=.tuple #[zx #[zn za 0 0,zh .i64 0],zh .i64 F,zh .i64 PP]) (by simp[results,results48,go_sem,r0,r1]) rfl ?_
   all_goals first|exact .bad ((bN.setCell (ax _) _).setCell (ax _) _) rfl rfl|exact .bad ((bN.setCell (ax _) _).setCell (ax _) _).drew rfl rfl|exact .bad ((bN.drew.setCell (ax _) _).setCell (ax _) _) rfl rfl
end
theorem zkT(t:ByteArray)(w:zp)(hs:t.size<=2000){l:List Tok}(hl:kL t.data.toList 0 []=(l,0,0))(cj:∀j,j<l.length->lu l j=0)(ho:dO (dn l l.length)):
  zB prog 48 #[.string t] w (Bz w .zero 6 (t.size:Int)):=by
 have h1:¬(2000:Int)<(t.size:Int):=by omega
 have hk:=Gh t.data.toList t.data.toList.length 0 [] (by omega) (by simp) (by simp) (by simp);rw[hl]at hk;obtain⟨cI,cY,_⟩:=hk;have hsz:t.data.toList.length=t.size:=jf;have SK:l.length<=t.data.toList.length:=cY;have cI:∀x∈l,uO x/\x.kind<7:=cI;have cY:l.length<=2000:=by omega
 clear hsz
 go_enter func48,ntmps48
 go_wp2_with fail
 obtain⟨W1,bk⟩:∃W1,W1=w.alloc (zy #[zn za 0 0,zh .i64 0] 89):=⟨_,rfl⟩;have hP:W1.heap[w.heap.size]?=zi (zy #[zn za 0 0,zh .i64 0] 89 (0,0)):=by rw[bk];exact aU _ _
 have dh:Below w.heap.size w W1:=by rw[bk];exact aC
 rw[<-bk];clear bk;refine(PV t W1 (by omega)).mono ?_;rw[hl];rintro e w2 ⟨aL,sv,q,rfl,hS⟩;have eJ:=aY hP aL;have bN:=bi dh dh.size aL;have hS:mH W1.heap.size w2 sv l q:=hS;have HS:=ah hS;have tH:=ah cI;have Dc:=hP;clear hP hS cI;rcases JS l.length with h0|h0
 ·have jr:∃ao cc,sv=.slice ao 0 cc:=by
   rcases HS.out.row.2 with ⟨h,_⟩|⟨g,cap,_,h,_⟩
   ·exact⟨_,_,h⟩
   ·exact⟨_,_,by rw[h0]at h;exact h⟩
  obtain⟨ao,cc,rfl⟩:=jr;have hC:=TW (v:=ao) (n:=0) (c:=cc) (ck:=(0:Int)-1) w2 (.inl (by omega));obtain⟨r0,r1,f0,f1⟩:=jZ eJ;clear cj ho cY h0 hl;go_wp2
  go_loop [35] (λi=>i=zh .i64 0) (λ_=>0)
  case atStart=>rfl
  case round=>
   obtain rfl:=hrel
   go_wp2_with fail
   refine hC.mono ?_;rintro e w3 ⟨rfl,hw⟩;rw[hw];clear hw w3 hC;go_wp2;refine bw (v:=.tuple #[zx #[zn za 0 0,zh .i64 0],zh .i64 6,zh .i64 t.size]) (by simp[results,results48,go_sem,r0,r1]) rfl ?_;exact .bad ((bN.setCell (ax _) _).setCell (ax _) _) rfl rfl
 have hG:=HS.out.to tH.out h0;obtain⟨G,cc,rfl,hV,nK,dN⟩:=hG;have E7:w.heap.size≠G:=by have h1:W1.heap.size<=G:=(dL HS.out.row rfl).1;have:=az Dc;omega
 have HV:=ah hV;obtain⟨n,hn⟩:∃n,n=l.length:=⟨_,rfl⟩;have fc:n<=2000:=by omega
 have Dv:0<n:=by omega
 have nL:(n:Int)<=(cc:Int):=by omega
 have Am:(cc:Int)<=9223372036854775807:=by omega
 have HN:=ah hn;rw[<-hn];obtain⟨r0,r1,f0,f1⟩:=jZ eJ;clear hV hn cY;go_wp2
 go_loop [35] (λi=>∃j:Nat,j<=n/\i=zh .i64 (j:Int)) (λi=>n-(intOf i).toNat)
 case atStart=>exact⟨0,by omega,rfl⟩
 case round=>
  obtain⟨j,hj,rfl⟩:=hrel
  by_cases hlt:j<n
  ·have rq:(j:Int)<(n:Int):=by omega
   have hC:=TV (c:=cc) w2 HV.out (k:=j) (by have:=HN.out;omega) (by have:=HN.out;omega);rw[<-HN.out,cj j (by have:=HN.out;omega)]at hC
   go_wp2_with fail
   refine hC.mono ?_;rintro e w3 ⟨rfl,hw⟩;rw[hw];clear hw w3 hC;go_wp2
   go_round
   case rel=>exact⟨j+1,by omega,by go_num⟩
   case measure=>simp[intOf];omega
  have rq:j=n:=by omega
  subst rq;have tO:Gl l:=λk hk=>HV.out.qE k hk
  have mM:=Uk tO (k:=l.length) (ax _);have hC:=Ty (c:=cc) w2 HV.out (k:=l.length) (ck:=(j:Int)-1) (ax _) (by have:=HN.out;omega);rw[<-HN.out]at hC mM;have BQ:dn l j≠7:=by unfold dn;rw[ab (by omega)];have:=tO (j-1) (by have:=HN.out;omega);omega
  have p1:(pB (dn l j)==40)=decide (dn l j=1):=Bb mM 1 (by omega);have p3:(pB (dn l j)==124)=decide (dn l j=3):=Bb mM 3 (by omega);have p5:(pB (dn l j)==94)=decide (dn l j=5):=Bb mM 5 (by omega);have P1:=ah p1;have P3:=ah p3;have P5:=ah p5;rw[<-HN.out]at ho;have HO:=ah ho;have QN:=ah BQ;have Dp:((j:Int)==0)=false:=by simp;omega
  clear p1 p3 p5 ho BQ tO mM hj hlt;generalize dn l j=PK at *;generalize pB PK=PB at *
  go_wp2_with fail
  refine hC.mono ?_;rintro e w3 ⟨rfl,hw⟩;rw[hw];clear hw w3 hC
  by_cases e1:PK=1
  ·have q1:(PB==40)=true:=by rw[P1.out];simp[e1]
   go_wp2;refine bw (v:=.tuple #[zx #[zn za 0 0,zh .i64 0],zh .i64 6,zh .i64 t.size]) (by simp[results,results48,go_sem,r0,r1]) rfl ?_;exact .bad ((bN.setCell (ax _) _).setCell (ax _) _) rfl rfl
  have q1:(PB==40)=false:=by rw[P1.out];simp[e1]
  by_cases e3:PK=3
  ·have q3:(PB==124)=true:=by rw[P3.out];simp[e3]
   go_wp2;refine bw (v:=.tuple #[zx #[zn za 0 0,zh .i64 0],zh .i64 6,zh .i64 t.size]) (by simp[results,results48,go_sem,r0,r1]) rfl ?_;exact .bad ((bN.setCell (ax _) _).setCell (ax _) _) rfl rfl
  have q3:(PB==124)=false:=by rw[P3.out];simp[e3]
  have e5:PK=5:=by have h1:=HO.out;have h2:=QN.out;unfold dO at h1;omega
  have q5:(PB==94)=true:=by rw[P5.out];simp[e5]
  go_wp2;refine bw (v:=.tuple #[zx #[zn za 0 0,zh .i64 0],zh .i64 6,zh .i64 t.size]) (by simp[results,results48,go_sem,r0,r1]) rfl ?_;exact .bad ((bN.setCell (ax _) _).setCell (ax _) _) rfl rfl
theorem zjy(t:ByteArray)(w:zp)(hs:t.size<=2000){l:List Tok}(hl:kL t.data.toList 0 []=(l,0,0))(cj:∀j,j<l.length->lu l j=0)(ho:¬dO (dn l l.length))(hd:0<bA l l.length):
  zB prog 48 #[.string t] w (Bz w .zero 8 ((l.getD ((fI l l.length).getD ((fI l l.length).length-1) 0) jb).pos:Int)):=by
 obtain⟨T,_,hT,Ag,yA,yB,hT4⟩:=zoZ cj hd;rw[<-hT];have Bo:=ah yB;have HT4:=ah hT4;clear hT yB hT4;have h0:0<l.length:=by omega
 have h1:¬(2000:Int)<(t.size:Int):=by omega
 have hk:=Gh t.data.toList t.data.toList.length 0 [] (by omega) (by simp) (by simp) (by simp);rw[hl]at hk;obtain⟨cI,cY,_⟩:=hk;have hsz:t.data.toList.length=t.size:=jf;have SK:l.length<=t.data.toList.length:=cY;have cI:∀x∈l,uO x/\x.kind<7:=cI;have cY:l.length<=2000:=by omega
 clear hsz
 go_enter func48,ntmps48
 go_wp2_with fail
 obtain⟨W1,bk⟩:∃W1,W1=w.alloc (zy #[zn za 0 0,zh .i64 0] 89):=⟨_,rfl⟩;have hP:W1.heap[w.heap.size]?=zi (zy #[zn za 0 0,zh .i64 0] 89 (0,0)):=by rw[bk];exact aU _ _
 have dh:Below w.heap.size w W1:=by rw[bk];exact aC
 rw[<-bk];clear bk;refine(PV t W1 (by omega)).mono ?_;rw[hl];rintro e w2 ⟨aL,sv,q,rfl,hS⟩;have eJ:=aY hP aL;have bN:=bi dh dh.size aL;have hS:mH W1.heap.size w2 sv l q:=hS;have HS:=ah hS;have tH:=ah cI;have Dc:=hP;clear hP hS cI;have hG:=HS.out.to tH.out h0;obtain⟨G,cc,rfl,hV,nK,dN⟩:=hG;have E7:w.heap.size≠G:=by have h1:W1.heap.size<=G:=(dL HS.out.row rfl).1;have:=az Dc;omega
 have HV:=ah hV;obtain⟨n,hn⟩:∃n,n=l.length:=⟨_,rfl⟩;have fc:n<=2000:=by omega
 have Dv:0<n:=by omega
 have nL:(n:Int)<=(cc:Int):=by omega
 have Am:(cc:Int)<=9223372036854775807:=by omega
 have HN:=ah hn;rw[<-hn];obtain⟨r0,r1,f0,f1⟩:=jZ eJ;clear hV hn cY;go_wp2
 go_loop [35] (λi=>∃j:Nat,j<=n/\i=zh .i64 (j:Int)) (λi=>n-(intOf i).toNat)
 case atStart=>exact⟨0,by omega,rfl⟩
 case round=>
  obtain⟨j,hj,rfl⟩:=hrel
  by_cases hlt:j<n
  ·have rq:(j:Int)<(n:Int):=by omega
   have hC:=TV (c:=cc) w2 HV.out (k:=j) (by have:=HN.out;omega) (by have:=HN.out;omega);rw[<-HN.out,cj j (by have:=HN.out;omega)]at hC
   go_wp2_with fail
   refine hC.mono ?_;rintro e w3 ⟨rfl,hw⟩;rw[hw];clear hw w3 hC;go_wp2
   go_round
   case rel=>exact⟨j+1,by omega,by go_num⟩
   case measure=>simp[intOf];omega
  have rq:j=n:=by omega
  subst rq;have tO:Gl l:=λk hk=>HV.out.qE k hk
  have mM:=Uk tO (k:=l.length) (ax _);have hC:=Ty (c:=cc) w2 HV.out (k:=l.length) (ck:=(j:Int)-1) (ax _) (by have:=HN.out;omega);rw[<-HN.out]at hC mM;have BQ:dn l j≠7:=by unfold dn;rw[ab (by omega)];have:=tO (j-1) (by have:=HN.out;omega);omega
  have p1:(pB (dn l j)==40)=decide (dn l j=1):=Bb mM 1 (by omega);have p3:(pB (dn l j)==124)=decide (dn l j=3):=Bb mM 3 (by omega);have p5:(pB (dn l j)==94)=decide (dn l j=5):=Bb mM 5 (by omega);have P1:=ah p1;have P3:=ah p3;have P5:=ah p5;rw[<-HN.out]at ho;have HO:=ah ho;have QN:=ah BQ;have Dp:((j:Int)==0)=false:=by simp;omega
  clear p1 p3 p5 ho BQ tO mM hj hlt;generalize dn l j=PK at *;generalize pB PK=PB at *
  go_wp2_with fail
  refine hC.mono ?_;rintro e w3 ⟨rfl,hw⟩;rw[hw];clear hw w3 hC;have q1:(PB==40)=false:=by rw[P1.out];have:=HO.out;simp[dO]at this;simp;omega
  have q3:(PB==124)=false:=by rw[P3.out];have:=HO.out;simp[dO]at this;simp;omega
  have q5:(PB==94)=false:=by rw[P5.out];have:=HO.out;simp[dO]at this;simp;omega
  have hD:=L9 (c:=cc) w2 HV.out (k:=l.length) (ck:=(j:Int)) (ax _) (by have:=HN.out;omega) (by have:=HN.out;omega);rw[<-HN.out]at hD;rw[<-HN.out]at hd;have hTj:T<j:=by have:=HN.out;omega
  generalize bA l j=DD at *;clear hl
  go_wp2_with fail
  refine hD.mono ?_;rintro e w3 ⟨rfl,hw⟩;rw[hw];clear hw w3 hD;go_wp2
  go_loop [11] (λv=>∃k:Nat,T<=k/\k<j/\v=zh .i64 (k:Int)) (λv=>(intOf v).toNat)
  case atStart=>exact⟨j-1,by omega,by omega,by go_num⟩
  case round=>
   obtain⟨k,cK,bJ,rfl⟩:=hrel;have YO:(k:Int)<(j:Int):=by omega
   have cY:k<l.length:=by have:=HN.out;omega
   have cs:=HV.out.DG cY;rw[jB]at cs;have e1:(kB (aZ l k)==40)=decide (aZ l k=1):=Ef (HV.out.qE k cY) 1 (by omega);have hC:=zjb (c:=cc) w2 HV.out (k:=k) cY (by omega) (by omega) (by have:=HN.out;omega);rw[<-HN.out]at hC
   by_cases hkT:k=T
   ·subst hkT;rw[yA]at cs;have c0:w2.cell? ⟨G,k*5,za⟩=zi (.int .u8 40):=cs;clear cs;have z1:=HV.out.Z6 cY;rw[jB]at z1;generalize ((l.getD k jb).pos:Int)=PP at *;have z2:((w2.setCell ⟨w.heap.size,0,za⟩ (zn za 0 0)).setCell ⟨w.heap.size,1,za⟩ (zh .i64 0)).cell? ⟨G,k*5+1,za⟩=zi (zh .i64 PP):=by
     rw[World.cell?_of_block (w:=w2)]
     ·exact z1
     ·rw[Below.heap_setCell _ _ _ _ (λe=>E7 e.symm),Below.heap_setCell _ _ _ _ (λe=>E7 e.symm)]
    clear e1
    go_wp2_with fail
    refine hC.mono ?_;rintro e w3 ⟨b,rfl,hw,hb⟩;rw[hw];clear hw w3 hC;have ri:b=true:=hb.2 Bo.out;clear hb;subst ri;go_wp2;clear cj cI hS Ag yA cK hTj hd c0 Bo HT4 HO QN P1 P3 P5 q1 q3 q5 eJ Dc
    go_region
    all_goals go_wp2
    all_goals refine bw (v:=.tuple #[zx #[zn za 0 0,zh .i64 0],zh .i64 8,zh .i64 PP]) (by simp[results,results48,go_sem,r0,r1]) rfl ?_
    all_goals first|exact .bad ((bN.setCell (ax _) _).setCell (ax _) _) rfl rfl|exact .bad ((bN.setCell (ax _) _).setCell (ax _) _).drew rfl rfl|exact .bad ((bN.drew.setCell (ax _) _).setCell (ax _) _) rfl rfl
   ·by_cases cP:aZ l k=1
    ·rw[cP]at cs;have c0:w2.cell? ⟨G,k*5,za⟩=zi (.int .u8 40):=cs;clear cs;have hnu:=HT4.out k (by omega) cY cP;clear e1
     go_wp2_with fail
     refine hC.mono ?_;rintro e w3 ⟨b,rfl,hw,hb⟩;rw[hw];clear hw w3 hC;have ri:b=false:=by cases aL:b with|false=>rfl|true=>exact absurd (hb.1 aL) hnu
     subst ri;go_wp2
     go_round
     case rel=>exact⟨k-1,by omega,by omega,by go_num⟩
     case measure=>simp[intOf];omega
    ·have nG:(kB (aZ l k)==40)=false:=by rw[e1];simpa using cP
     generalize kB (aZ l k)=KB at *;clear hC e1;go_wp2
     go_round
     case rel=>exact⟨k-1,by omega,by omega,by go_num⟩
     case measure=>simp[intOf];omega
variable {B g' lo:Nat}{W:zp}{v:zw}{bs:List cX}{U:Nat -> Prop}{ns:List aI}
def Hq(b:cX)(s:zw):List zw:=[.bool b.bol,.bool b.eol,s]
def yg(bs:List cX)(nv:Nat->zw):List zw:=(List.range bs.length).flatMap λk=>Hq (bs.getD k .zero) (nv k)
theorem zoc(bs:List cX)(nv:Nat->zw){k j:Nat}(hk:k<bs.length)(hj:j<3):(yg bs nv)[k*3+j]?=(Hq (bs.getD k .zero) (nv k))[j]?:=Ud (f:=λk=>Hq (bs.getD k .zero) (nv k)) (sz:=3) (λ_=>rfl) _ _ _ hk hj
def oO(B:Nat)(W:zp)(v:zw)(bs:List cX):Prop:=∃nv,W.ownsRow B 107 3 v bs.length (yg bs nv)/\∀k,k<bs.length->fT (λb=>B<=b/\v.ownBlock≠zi b) W (nv k) (bs.getD k .zero).nodes
theorem oO.nil(B:Nat)(W:zp):oO B W (zn za 0 0) []:=⟨λ_=>zn za 0 0,World.ownsRow_nil _ _ _ _,λk h=>absurd h (by simp)⟩
theorem oO.keep{W':zp}(h:oO B W v bs)(hs:W.heap.size<=W'.heap.size)(hk:∀b,B<=b->b<W.heap.size->W'.heap[b]?=W.heap[b]?):oO B W' v bs:=by
 obtain⟨nv,ho,hn⟩:=h;exact⟨nv,uo ho λb hb=>hk b (dL ho hb).1 (dL ho hb).2,λk bJ=>(hn k bJ).keep hs λb hb hl=>hk b hb.1 hl⟩
theorem oO.push{w':zp}{s:zw}{b:cX}{nv:Nat->zw}{cap':Nat}
  (hn:∀k,k<bs.length->fT (λb=>B<=b/\v.ownBlock≠zi b) W (nv k) (bs.getD k .zero).nodes) (hv:fT (λb=>B<=b/\v.ownBlock≠zi b) W s b.nodes)
  (ho:w'.ownsRow B 107 3 (zn (zi ⟨g',0,za⟩) (bs.length+1) cap') (bs.length+1) (yg bs nv++Hq b s)) (hg:W.grownBy w' v.ownBlock) (eY:v.ownBlock=zi g'\/W.heap.size<=g'):
  oO B w' (zn (zi ⟨g',0,za⟩) (bs.length+1) cap') (bs++[b]):=by
 have key:∀s ns,fT (λb=>B<=b/\v.ownBlock≠zi b) W s ns->fT (λb=>B<=b/\(Value.slice (zi ⟨g',0,za⟩) (bs.length+1) cap').ownBlock≠zi b) w' s ns:=by
  intro s ns h;have h4:fT (λb=>(B<=b/\v.ownBlock≠zi b)/\b<W.heap.size) W s ns:=h.mono λb hb hl=>⟨hb,hl⟩
  have h5:=h4.keep hg.size (λb hb hl=>hg.block b hl (λe=>hb.1.2 e.symm));refine h5.mono λb hb _=>⟨hb.1.1,λe=>?_⟩
  have e2:g'=b:=by simpa [Value.ownBlock]using e
  subst e2;rcases eY with h|h
  ·exact hb.1.2 h
  ·have:=hb.2;omega
 have ot:∀k,k<bs.length->(bs++[b]).getD k .zero=bs.getD k .zero:=λk hk=>by simp[List.getD,List.getElem?_append_left hk]
 have dH:(bs++[b]).getD bs.length .zero=b:=by simp[List.getD]
 refine⟨λk=>if k<bs.length then nv k else s,?_,λk hk=>?_⟩
 ·have:yg (bs++[b]) (λk=>if k<bs.length then nv k else s)=yg bs nv++Hq b s:=by
   unfold yg;rw[a6,show [b].length=1 from rfl,LY]
   congr 1
   ·exact PM _ λk hk=>by rw[ot k hk];simp only[ae hk]
   ·rw[dH];simp
  rw[this,a6];exact ho
 ·by_cases e:k<bs.length
  ·rw[ot k e];simp only[ae e];exact key _ _ (hn k e)
  ·have e2:k=bs.length:=by simp at hk;omega
   subst e2;rw[dH];simp only[ab e];exact key _ _ hv
theorem fX.at{rs:List (Int×Int)}(h:fX U W v rs)(hU:∀b,U b->lo<=b):nk lo W v rs:=by
 obtain⟨ao,cap,rfl,h1,h2,h3⟩:=h;refine⟨ao,cap,rfl,cM h1 (Jr h2),λh0=>?_⟩;obtain⟨b,rfl,hb,hl,hc⟩:=h3 h0;exact⟨b,0,rfl,hU b hb,hl,λi hi=>⟨by rw[jB];exact hc _ _ (zpy rs i hi).1,by rw[jB];exact hc _ _ (zpy rs i hi).2⟩⟩
theorem fT.at(h:fT U W v ns)(hU:∀b,U b->lo<=b):nX lo W v ns:=by
 obtain⟨b,cap,sv,rfl,h1,h2,hb,hl,hc,hr⟩:=h;refine⟨_,cap,rfl,cM h1 (Jr h2),λ_=>⟨b,0,rfl,hU b hb,hl,λi hi=>?_⟩⟩;have hg:=λj (hj:j<5)=>zsG ns sv hi hj
 rw[jB];exact⟨hc _ _ (hg 0 (by omega)),⟨sv i,hc _ _ (hg 1 (by omega)),(hr i hi).at hU⟩,hc _ _ (hg 2 (by omega)),hc _ _ (hg 3 (by omega)),hc _ _ (hg 4 (by omega))⟩
theorem oO.at(h:oO B W v bs)(oC:lo<=B):jd lo W v bs:=by
 obtain⟨nv,ho,hn⟩:=h;rcases ho.2 with ⟨rfl,h0⟩|⟨g,cap,a9,rfl,hg,hh,h1,h2,h3,h4⟩
 ·have:bs=[]:=qj h0;subst this;exact jd.nil _ _
 ·refine⟨_,cap,rfl,cM h1 (Jr h2),λ_=>⟨g,0,rfl,cM oC hg,az hh,λi hi=>?_⟩⟩;have hg:=λj (hj:j<3)=>(ho.cellAt (i*3+j) (by omega)).trans (zoc bs nv hi hj)
  rw[jB];exact⟨hg 0 (by omega),hg 1 (by omega),⟨nv i,hg 2 (by omega),(hn i hi).at λb hb=>cM oC hb.1⟩⟩
theorem zoT:(prog.info? 107).map (λi=>(i.zero,i.size,i.bytes))=zi (zi (zx #[.bool false,.bool false,zn za 0 0]),3,32):=by kernel_rfl
theorem zjE{ops:Array Oper}{rest:List Oper}{o:Oper}{a:Act}{Q:Exit->Act->zp->Prop}{W0:zp}(mb:o.guard=za)(s x:Operand)
  (ho:o.op=.call {callee:=.builtin .append,args:=#[s,x],argTypes:=#[87,87]}) (B:Nat) (v nv:zw) (bs:List cX) (b:cX) (hW:W=W0.alloc (zy #[.bool b.bol,.bool b.eol,nv] 107)) (hs:a.eval s=v) (hF:oO B W0 v bs)
  (H:Nat) (hH:W0.heap.size=H) (hx:a.eval x=zn (zi ⟨H,0,za⟩) 1 1) (hv:fT (λb=>B<=b/\v.ownBlock≠zi b) W0 nv b.nodes) (hlen:bs.length<=100000) (hB:B<=W0.heap.size)
  (h:∀g' cap' w',oO B w' (zn (zi ⟨g',0,za⟩) (bs.length+1) cap') (bs++[b])->W0.grownBy w' v.ownBlock->(v.ownBlock=zi g'\/W0.heap.size<=g')->wpList prog ops Q rest (a.put o.dst (zn (zi ⟨g',0,za⟩) (bs.length+1) cap')) w'):
  wpList prog ops Q (o::rest) a W:=by
 obtain⟨iN,rn,rD,rE,rF⟩:=info_parts zoT;obtain⟨pv,bV,hp⟩:=hF;refine wZ mb s x 87 ho W0 #[.bool b.bol,.bool b.eol,nv] 107 hW H hH B iN _ 3 32 underlying87 rn rD rE rF rfl (by omega) v bs.length _ hs bV hx rfl ?_ (by omega) (by omega) hB ?_
 ·intro u hu;obtain⟨b5,cap,sv,rfl,_⟩:=hv;simp at hu;rcases hu with rfl|rfl|rfl<;>rfl
 ·intro g' cap' w' iZ cU kc;exact h g' cap' w' (oO.push hp hv iZ cU kc) cU kc
theorem zqG{s g n:Nat}{l:List Tok}(h:Gr s g l n ns g'):∀x∈l,x.kind<=4:=by
 induction h with
 |atom hk=>intro x hx;simp at hx;subst hx;omega
 |aH ho _ hc ih=>
  intro x hx;simp at hx;rcases hx with rfl|hx|rfl
  ·omega
  ·exact ih x hx
  ·omega
 |bare _ ih=>exact ih
 |jX _ hr ih=>
  intro x hx;simp at hx;rcases hx with hx|rfl
  ·exact ih x hx
  ·omega
 |one _ ih=>exact ih
 |more _ _ kK jt=>intro x hx;rcases gH.1 hx with h|h;exact kK x h;exact jt x h
 |eA _ ih=>exact ih
 |alts _ hb _ kK jt=>
  intro x hx;simp at hx;rcases hx with hx|rfl|hx
  ·exact kK x hx
  ·omega
  ·exact jt x hx
end Go.Proofs.Ytfajjdgkiilhfaa
