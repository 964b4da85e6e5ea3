import Derived.Test.YtfajjdgkiilhfaaC9
namespace Go.Proofs.Ytfajjdgkiilhfaa
open Proofs.Try
open Option renaming some->za,none->zh
set_option maxHeartbeats 1000000
set_option maxRecDepth 100000
open Go.RowKit
attribute [local go_sem ↓] wp_at_zero wp_at_succ
structure Tok where
 kind:Nat
 pos:Nat
 set:Nat->Bool
 mn:Int
 mx:Int
def A8(f:Nat->Bool)(l:List (Int×Int))(c:Nat):List (Int×Int):=
 if f c then (if 0<c/\f (c-1)=true then l.dropLast++[((l.getLast?.getD (0,0)).1,(c:Int))] else l++[((c:Int),(c:Int))]) else l
def iF(f:Nat->Bool):Nat->List (Int×Int)
 |0=>[]
 |c+1=>A8 f (iF f c) c
def uk:aI:=⟨2,[],0,0,0⟩
def Hi:aI:=⟨3,[],0,0,0⟩
def Pp(f:Nat->Bool):aI:=⟨1,iF f 256,0,0,0⟩
def Jj(mn mx:Int):aI:=⟨4,[],mn,mx,0⟩
def KE(g:Nat):aI:=⟨5,[],0,0,(g:Int)⟩
inductive Gr:Nat->Nat->List Tok->Nat->List aI->Nat->Prop
 |atom {g:Nat} {a:Tok}:a.kind=0->Gr 0 g [a] 0 [Pp a.set] g
 |aH {g g' n:Nat} {o c:Tok} {l:List Tok} {ns:List aI}:o.kind=1->Gr 3 (g+1) l (n+1) ns g'->c.kind=2->Gr 0 g (o::(l++[c])) 0 (ns++List.replicate n Hi++[KE (g+1)]) g'
 |bare {g g':Nat} {l:List Tok} {ns:List aI}:Gr 0 g l 0 ns g'->Gr 1 g l 0 ns g'
 |jX {g g':Nat} {l:List Tok} {ns:List aI} {r:Tok}:Gr 0 g l 0 ns g'->r.kind=4->Gr 1 g (l++[r]) 0 (ns++[Jj r.mn r.mx]) g'
 |one {g g':Nat} {l:List Tok} {ns:List aI}:Gr 1 g l 0 ns g'->Gr 2 g l 1 ns g'
 |more {g g1 g2 n:Nat} {l m:List Tok} {ns ms:List aI}:Gr 1 g l 0 ns g1->Gr 2 g1 m n ms g2->Gr 2 g (l++m) (n+1) (ns++ms) g2
 |eA {g g' n:Nat} {l:List Tok} {ns:List aI}:Gr 2 g l (n+1) ns g'->Gr 3 g l 1 (ns++List.replicate n uk) g'
 |alts {g g1 g2 n k:Nat} {l m:List Tok} {b:Tok} {ns ms:List aI}:Gr 2 g l (n+1) ns g1->b.kind=3->Gr 3 g1 m k ms g2->Gr 3 g (l++b::m) (k+1) (ns++List.replicate n uk++ms) g2
inductive Br:Nat->List Tok->cX->Nat->Prop
 |none {g g' n:Nat} {l:List Tok} {ns:List aI}:Gr 2 g l (n+1) ns g'->Br g l ⟨false,false,ns++List.replicate n uk⟩ g'
 |bol {g g' n:Nat} {l:List Tok} {ns:List aI} {x:Tok}:x.kind=5->Gr 2 g l (n+1) ns g'->Br g (x::l) ⟨true,false,ns++List.replicate n uk⟩ g'
 |eol {g g' n:Nat} {l:List Tok} {ns:List aI} {y:Tok}:y.kind=6->Gr 2 g l (n+1) ns g'->Br g (l++[y]) ⟨false,true,ns++List.replicate n uk⟩ g'
 |both {g g' n:Nat} {l:List Tok} {ns:List aI} {x y:Tok}:x.kind=5->y.kind=6->Gr 2 g l (n+1) ns g'->Br g (x::(l++[y])) ⟨true,true,ns++List.replicate n uk⟩ g'
inductive Rl:Nat->List Tok->List cX->Nat->Prop
 |one {g g':Nat} {l:List Tok} {b:cX}:Br g l b g'->Rl g l [b] g'
 |more {g g1 g2:Nat} {l m:List Tok} {b:cX} {x:Tok} {bs:List cX}:Br g l b g1->x.kind=3->Rl g1 m bs g2->Rl g (l++x::m) (b::bs) g2
def dO(prev:Nat):Prop:=prev=7\/prev=1\/prev=3\/prev=5
def qN(l:List Tok):Nat:=match l with | []=>7|x::_=>x.kind
def fits(prev d x next:Nat):Prop:=
 (x=0)\/(x=1)\/(x=2/\d≠0/\¬dO prev)\/(x=3/\¬dO prev)\/(x=4/\(prev=0\/prev=2))\/(x=5/\d=0/\(prev=7\/prev=3))\/(x=6/\d=0/\(next=7\/next=3)/\¬dO prev)
def deep(d x:Nat):Nat:=if x=1 then d+1 else if x=2 then d-1 else d
def j6:Nat->Nat->List Tok->Prop
 |prev,d,[]=>¬dO prev/\d=0
 |prev,d,x::l=>fits prev d x.kind (qN l)/\j6 x.kind (deep d x.kind) l
def Gq(k:Nat):Prop:=k=0\/k=2\/k=4
theorem zoL(N:Nat)(hA:∀(g d:Nat) (l:List Tok),l.length<N->j6 1 (d+1) l->∃body c rest n ns g',l=body++c::rest/\c.kind=2/\Gr 3 g body (n+1) ns g'/\j6 2 d rest)
  (g prev d:Nat) (x:Tok) (l:List Tok) (hN:(x::l).length<=N) (h:j6 prev d (x::l)) (hx:x.kind=0\/x.kind=1):
  ∃a rest ns g' k,x::l=a++rest/\a≠[]/\Gr 0 g a 0 ns g'/\(k=0\/k=2)/\j6 k d rest:=by
 rcases hx with hx|hx
 ·refine⟨[x],l,_,g,0,rfl,by simp,.atom hx,.inl rfl,?_⟩;have:=h.2;rw[hx]at this
  simpa [deep]using this
 ·have h2:=h.2;rw[hx]at h2;have h3:j6 1 (d+1) l:=by simpa [deep]using h2
  obtain⟨body,c,rest,n,ns,g',rfl,hc,hG,hg⟩:=hA (g+1) d l (by simp at hN;omega) h3;exact⟨x::(body++[c]),rest,_,g',2,by simp,by simp,.aH hx hG hc,.inr rfl,hg⟩
theorem zqF(N:Nat)(hA:∀(g d:Nat) (l:List Tok),l.length<N->j6 1 (d+1) l->∃body c rest n ns g',l=body++c::rest/\c.kind=2/\Gr 3 g body (n+1) ns g'/\j6 2 d rest)
  (g prev d:Nat) (x:Tok) (l:List Tok) (hN:(x::l).length<=N) (h:j6 prev d (x::l)) (hx:x.kind=0\/x.kind=1):
  ∃a rest ns g' k,x::l=a++rest/\a≠[]/\Gr 1 g a 0 ns g'/\Gq k/\qN rest≠4/\j6 k d rest:=by
 obtain⟨a,rest,ns,g',k,e,hne,hG,hk,hg⟩:=zoL N hA g prev d x l hN h hx;cases rest with
 |nil=>exact⟨a,[],ns,g',k,e,hne,.bare hG,by unfold Gq;omega,by simp[qN],hg⟩
 |cons r rest=>
  by_cases hr:r.kind=4
  ·have h2:=hg.2;rw[hr]at h2;have h3:j6 4 d rest:=by simpa [deep]using h2
   refine⟨a++[r],rest,_,g',4,by rw[e];simp,by simp,.jX hG hr,by unfold Gq;omega,?_,h3⟩;cases rest with
   |nil=>simp[qN]
   |cons y rest=>
    intro h4;have Xb:y.kind=4:=h4;have h5:=h3.1;rw[Xb]at h5;unfold fits at h5;omega
  ·exact⟨a,r::rest,ns,g',k,e,hne,.bare hG,by unfold Gq;omega,hr,hg⟩
theorem zgT(N:Nat)(hA:∀(g d:Nat) (l:List Tok),l.length<N->j6 1 (d+1) l->∃body c rest n ns g',l=body++c::rest/\c.kind=2/\Gr 3 g body (n+1) ns g'/\j6 2 d rest):
  ∀(M g prev d:Nat) (x:Tok) (l:List Tok),(x::l).length<=M->M<=N->j6 prev d (x::l)->(x.kind=0\/x.kind=1)->
  ∃a rest n ns g' k,x::l=a++rest/\a≠[]/\Gr 2 g a (n+1) ns g'/\Gq k/\qN rest≠0/\qN rest≠1/\qN rest≠4/\j6 k d rest
 |0,g,prev,d,x,l,hM,_,_,_=>by simp at hM
 |M+1,g,prev,d,x,l,hM,hMN,h,hx=>by
  obtain⟨a,rest,ns,g',k,e,hne,hG,hk,h4,hg⟩:=zqF N hA g prev d x l (by omega) h hx;cases rest with
  |nil=>exact⟨a,[],0,ns,g',k,e,hne,.one hG,hk,by simp[qN],by simp[qN],h4,hg⟩
  |cons y rest=>
   by_cases hy:y.kind=0\/y.kind=1
   ·have hlen:(y::rest).length<=M:=by
     have:=congrArg List.length e;simp only[iG,a6]at this hM ⊢;have:0<a.length:=qh.2 hne;omega
    obtain⟨b,Z8,n,ms,g2,k2,e2,SX,Xx,bJ,h0,h1,Xc,dH⟩:=zgT N hA M g' k d y rest hlen (by omega) hg hy;exact⟨a++b,Z8,n+1,ns++ms,g2,k2,by rw[e,e2];simp,by simp[hne],.more hG Xx,bJ,h0,h1,Xc,dH⟩
   ·exact⟨a,y::rest,0,ns,g',k,e,hne,.one hG,hk,λh=>hy (.inl h),λh=>hy (.inr h),h4,hg⟩
theorem zgU:∀(N g d:Nat) (l:List Tok) (prev:Nat),(prev=1\/prev=3)->l.length<=N->j6 prev (d+1) l->∃body c rest n ns g',l=body++c::rest/\c.kind=2/\Gr 3 g body (n+1) ns g'/\j6 2 d rest
 |0,g,d,l,prev,_,hl,h=>by
  have:l=[]:=qj (by omega);subst this;exact absurd h.2 (by omega)
 |N+1,g,d,l,prev,hp,hl,h=>by
  cases l with
  |nil=>exact absurd h.2 (by omega)
  |cons x l=>
   have hx:x.kind=0\/x.kind=1:=by
    have:=h.1;unfold fits dO at this;omega
   obtain⟨a,rest,n,ns,g',k,e,hne,hG,hk,h0,h1,h4,hg⟩:=zgT (N+1) (λg d l hl h=>zgU N g d l 1 (.inl rfl) (by omega) h) (N+1) g prev (d+1) x l hl (ax _) h hx;cases rest with
   |nil=>exact absurd hg.2 (by omega)
   |cons y rest=>
    have hy:=hg.1;have h0':y.kind≠0:=h0;have zZ:y.kind≠1:=h1;have Xb:y.kind≠4:=h4;have sH:y.kind=2\/y.kind=3:=by unfold fits at hy;omega
    have h2:=hg.2;rcases sH with sH|sH
    ·rw[sH]at h2;have h3:j6 2 d rest:=by simpa [deep]using h2
     exact⟨a,y,rest,0,_,g',e,sH,.eA hG,h3⟩
    ·rw[sH]at h2;have h3:j6 3 (d+1) rest:=by simpa [deep]using h2
     have hlen:rest.length<=N:=by
      have:=congrArg List.length e;simp only[iG,a6]at this hl;omega
     obtain⟨body,c,Z8,m,ms,g2,e2,hc,Xx,dH⟩:=zgU N g' d rest 3 (.inr rfl) hlen h3;exact⟨a++y::body,c,Z8,m+1,_,g2,by rw[e,e2];simp,hc,.alts hG sH Xx,dH⟩
theorem zms(g prev d:Nat)(x:Tok)(l:List Tok)(h:j6 prev d (x::l))(hx:x.kind=0\/x.kind=1):
  ∃a rest n ns g' k,x::l=a++rest/\a≠[]/\Gr 2 g a (n+1) ns g'/\Gq k/\qN rest≠0/\qN rest≠1/\qN rest≠4/\j6 k d rest:=
 zgT (x::l).length (λg d l _ h=>zgU l.length g d l 1 (.inl rfl) (ax _) h) (x::l).length g prev d x l (ax _) (ax _) h hx
theorem zj4{k:Nat}{rest:List Tok}(hk:Gq k)(h0:qN rest≠0)(h1:qN rest≠1)(h4:qN rest≠4)(hg:j6 k 0 rest):
  rest=[]\/(∃b m,rest=b::m/\b.kind=3/\j6 3 0 m)\/(∃y,rest=[y]/\y.kind=6)\/∃y b m,rest=y::b::m/\y.kind=6/\b.kind=3/\j6 3 0 m:=by
 cases rest with
 |nil=>exact .inl rfl
 |cons y rest=>
  have h0':y.kind≠0:=h0;have zZ:y.kind≠1:=h1;have Xb:y.kind≠4:=h4;have hy:=hg.1;have h2:=hg.2;unfold fits at hy;have bP:k≠7/\k≠3:=by unfold Gq at hk;omega
  have sH:y.kind=3\/(y.kind=6/\(qN rest=7\/qN rest=3)):=by omega
  rcases sH with sH|⟨sH,hn⟩
  ·rw[sH]at h2;exact .inr (.inl ⟨y,rest,rfl,sH,by simpa [deep]using h2⟩)
  ·rw[sH]at h2;have h3:j6 6 0 rest:=by simpa [deep]using h2
   cases rest with
   |nil=>exact .inr (.inr (.inl ⟨y,rfl,sH⟩))
   |cons b m=>
    have hb:b.kind=3:=by
     rcases hn with hn|hn
     ·have iC:b.kind=7:=hn;have:=h3.1;unfold fits at this;omega
     ·exact hn
    have h5:=h3.2;rw[hb]at h5;exact .inr (.inr (.inr ⟨y,b,m,rfl,sH,hb,by simpa [deep]using h5⟩))
theorem PJ:∀(N g:Nat) (l:List Tok) (prev:Nat),(prev=7\/prev=3)->l.length<=N->j6 prev 0 l->∃bs g',Rl g l bs g'
 |0,g,l,prev,hp,hl,h=>by
  have:l=[]:=qj (by omega);subst this;exact absurd (show dO prev by unfold dO;omega) h.1
 |N+1,g,l,prev,hp,hl,h=>by
  cases l with
  |nil=>exact absurd (show dO prev by unfold dO;omega) h.1
  |cons x l=>
   by_cases DF:x.kind=5
   ·have h2:=h.2;rw[DF]at h2;have h3:j6 5 0 l:=by simpa [deep]using h2
    cases l with
    |nil=>exact absurd (show dO 5 by unfold dO;omega) h3.1
    |cons z l=>
     have hz:z.kind=0\/z.kind=1:=by
      have:=h3.1;unfold fits dO at this;omega
     obtain⟨a,rest,n,ns,g',k,e,hne,hG,hk,h0,h1,h4,hg⟩:=zms g 5 0 z l h3 hz;rw[e];have jF:rest.length+1<=N:=by
      have:=congrArg List.length e;simp only[iG,a6]at this hl;have:0<a.length:=qh.2 hne;omega
     rcases zj4 hk h0 h1 h4 hg with rfl|⟨b,m,rfl,hb,hm⟩|⟨y,rfl,hy⟩|⟨y,b,m,rfl,hy,hb,hm⟩
     ·exact⟨_,g',by rw[Gx];exact .one (.bol DF hG)⟩
     ·obtain⟨bs,g2,hR⟩:=PJ N g' m 3 (.inr rfl) (by simp at jF;omega) hm;exact⟨_,g2,Rl.more (l:=x::a) (.bol DF hG) hb hR⟩
     ·exact⟨_,g',.one (.both DF hy hG)⟩
     ·obtain⟨bs,g2,hR⟩:=PJ N g' m 3 (.inr rfl) (by simp at jF;omega) hm;have:=Rl.more (l:=x::(a++[y])) (.both DF hy hG) hb hR;have e3:x::(a++y::b::m)=(x::(a++[y]))++b::m:=by simp
      rw[e3];exact⟨_,g2,this⟩
   ·have hx:x.kind=0\/x.kind=1:=by
     have:=h.1;unfold fits dO at this;omega
    obtain⟨a,rest,n,ns,g',k,e,hne,hG,hk,h0,h1,h4,hg⟩:=zms g prev 0 x l h hx;rw[e];have jF:rest.length+1<=N+1:=by
     have:=congrArg List.length e;simp only[iG,a6]at this hl;have:0<a.length:=qh.2 hne;omega
    rcases zj4 hk h0 h1 h4 hg with rfl|⟨b,m,rfl,hb,hm⟩|⟨y,rfl,hy⟩|⟨y,b,m,rfl,hy,hb,hm⟩
    ·exact⟨_,g',by rw[Gx];exact .one (.none hG)⟩
    ·obtain⟨bs,g2,hR⟩:=PJ N g' m 3 (.inr rfl) (by simp at jF;omega) hm;exact⟨_,g2,Rl.more (l:=a) (.none hG) hb hR⟩
    ·exact⟨_,g',.one (.eol hy hG)⟩
    ·obtain⟨bs,g2,hR⟩:=PJ N g' m 3 (.inr rfl) (by simp at jF;omega) hm;have:=Rl.more (l:=a++[y]) (.eol hy hG) hb hR;have e3:a++y::b::m=(a++[y])++b::m:=by simp
     rw[e3];exact⟨_,g2,this⟩
section
variable {l:List Nat}{x q:Nat}
def jb:Tok:=⟨0,0,λ_=>false,0,0⟩
def aZ(l:List Tok)(k:Nat):Nat:=(l.getD k jb).kind
def bA(l:List Tok):Nat->Int
 |0=>0
 |k+1=>bA l k+(if aZ l k=1 then 1 else if aZ l k=2 then -1 else 0)
def cZ(l:List Tok):Nat->Nat
 |0=>0
 |k+1=>cZ l k+(if aZ l k=1 then 1 else 0)
def dn(l:List Tok)(k:Nat):Nat:=if k=0 then 7 else aZ l (k-1)
def uz(l:List Tok)(k:Nat):Nat:=if k+1<l.length then aZ l (k+1) else 7
instance zDh (p:Nat):Decidable (dO p):=inferInstanceAs (Decidable (_\/_\/_\/_))
def lu(l:List Tok)(k:Nat):Int:=
 if aZ l k=1 then (if 500<cZ l (k+1) then 9 else 0)
 else if aZ l k=2 then (if bA l k=0 then 7 else if dO (dn l k) then 6 else 0)
 else if aZ l k=3 then (if dO (dn l k) then 6 else 0)
 else if aZ l k=4 then (if dn l k≠0/\dn l k≠2 then 6 else 0)
 else if aZ l k=5 then (if bA l k≠0\/(dn l k≠7/\dn l k≠3) then 5 else 0)
 else if aZ l k=6 then (if bA l k≠0\/(uz l k≠7/\uz l k≠3) then 5 else if dO (dn l k) then 6 else 0)
 else 0
def Gl(l:List Tok):Prop:=∀k,k<l.length->aZ l k<7
def fI(l:List Tok):Nat->List Nat
 |0=>[]
 |k+1=>if aZ l k=1 then fI l k++[k] else if aZ l k=2 then (fI l k).dropLast else fI l k
structure zze(l:List Tok)(n:Nat):Prop where
 len:bA l n=((fI l n).length:Int)
 pt:∀q,q<(fI l n).length->(fI l n).getD q 0<n/\aZ l ((fI l n).getD q 0)=1/\bA l ((fI l n).getD q 0)=(q:Int)
 up:∀q,q<(fI l n).length->∀e,(fI l n).getD q 0<e->e<=n->(q:Int)+1<=bA l e
 shut:∀k,k<n->aZ l k=1->k∉fI l n->∃e,k<e/\e<=n/\bA l e=bA l k
theorem zfQ(h:q<l.length):(l++[x]).getD q 0=l.getD q 0:=by
 simp[List.getD,List.getElem?_append_left h]
theorem zfP(l:List Nat)(x:Nat):(l++[x]).getD l.length 0=x:=by simp[List.getD]
theorem zeX(h:q+1<l.length):l.dropLast.getD q 0=l.getD q 0:=by
 simp only[List.getD];rw[List.getElem?_dropLast,ae (by omega)]
theorem zkl(h:x∈l)(hn:x∉l.dropLast):l≠[]/\x=l.getD (l.length-1) 0:=by
 have hne:l≠[]:=by intro e;subst e;simp at h
 refine⟨hne,?_⟩;have e:=List.dropLast_concat_getLast hne;rw[<-e]at h;rcases gH.1 h with h|h
 ·exact absurd h hn
 ·simp at h;rw[h,List.getLast_eq_getElem,bI,bE (by have:=qh.2 hne;omega)]
  rfl
theorem Tq(l:List Tok):∀n,(∀k,k<n->lu l k=0)->zze l n
 |0,_=>⟨rfl,λq h=>absurd h (by simp[fI]),λq h=>absurd h (by simp[fI]),λk h=>absurd h (by omega)⟩
 |n+1,hf=>by
  have I:=Tq l n λk hk=>hf k (by omega)
  have hn:=hf n (by omega)
  by_cases h1:aZ l n=1
  ·have es:fI l (n+1)=fI l n++[n]:=by show (if aZ l n=1 then _ else _)=_;rw[ae h1]
   have ed:bA l (n+1)=bA l n+1:=by show bA l n+_=_;rw[ae h1]
   refine⟨by rw[es,ed,I.len];simp,?_,?_,?_⟩
   ·intro q hq;rw[es]at hq ⊢
    by_cases e:q<(fI l n).length
    ·rw[zfQ e];have:=I.pt q e;exact⟨by omega,this.2⟩
    ·have e2:q=(fI l n).length:=by simp at hq;omega
     subst e2;rw[zfP];exact⟨by omega,h1,I.len⟩
   ·intro q hq e h2 h3;rw[es]at hq h2
    by_cases e1:q<(fI l n).length
    ·rw[zfQ e1]at h2
     by_cases e3:e=n+1
     ·subst e3;rw[ed,I.len];omega
     ·exact I.up q e1 e h2 (by omega)
    ·have e2:q=(fI l n).length:=by simp at hq;omega
     subst e2;rw[zfP]at h2;have:e=n+1:=by omega
     subst this;rw[ed,I.len];omega
   ·intro k hk cK hm;rw[es]at hm;have k7:k≠n:=λe=>hm (by simp[e])
    obtain⟨e,h2,h3,h4⟩:=I.shut k (by omega) cK (λh=>hm (by simp[h]));exact⟨e,h2,by omega,h4⟩
  ·by_cases h2:aZ l n=2
   ·have es:fI l (n+1)=(fI l n).dropLast:=by show (if aZ l n=1 then _ else if aZ l n=2 then _ else _)=_;rw[ab h1,ae h2]
    have ed:bA l (n+1)=bA l n-1:=by show bA l n+_=_;rw[ab h1,ae h2];omega
    have hd:bA l n≠0:=by
     intro hd;unfold lu at hn;rw[ab h1,ae h2,ae hd]at hn;omega
    have pX:0<(fI l n).length:=by have:=I.len;omega
    have hl:(fI l n).dropLast.length=(fI l n).length-1:=by simp
    refine⟨by rw[es,ed,I.len,hl];omega,?_,?_,?_⟩
    ·intro q hq;rw[es]at hq ⊢;rw[zeX (by omega)];have:=I.pt q (by omega);exact⟨by omega,this.2⟩
    ·intro q hq e h3 h4;rw[es]at hq h3;rw[zeX (by omega)]at h3
     by_cases e3:e=n+1
     ·subst e3;rw[ed,I.len];omega
     ·exact I.up q (by omega) e h3 (by omega)
    ·intro k hk cK hm;rw[es]at hm
     by_cases k7:k=n
     ·subst k7;omega
     by_cases vb:k∈fI l n
     ·obtain⟨_,e⟩:=zkl vb hm;have:=I.pt ((fI l n).length-1) (by omega);rw[<-e]at this;exact⟨n+1,by omega,by omega,by rw[ed,I.len,this.2.2];omega⟩
     ·obtain⟨e,h3,h4,h5⟩:=I.shut k (by omega) cK vb;exact⟨e,h3,by omega,h5⟩
   ·have es:fI l (n+1)=fI l n:=by show (if aZ l n=1 then _ else if aZ l n=2 then _ else _)=_;rw[ab h1,ab h2]
    have ed:bA l (n+1)=bA l n:=by show bA l n+_=_;rw[ab h1,ab h2];omega
    refine⟨by rw[es,ed,I.len],?_,?_,?_⟩
    ·intro q hq;rw[es]at hq ⊢;have:=I.pt q hq;exact⟨by omega,this.2⟩
    ·intro q hq e h3 h4;rw[es]at hq h3
     by_cases e3:e=n+1
     ·subst e3;rw[ed,I.len];omega
     ·exact I.up q hq e h3 (by omega)
    ·intro k hk cK hm;rw[es]at hm;have k7:k≠n:=λe=>h1 (e ▸ cK)
     obtain⟨e,h3,h4,h5⟩:=I.shut k (by omega) cK hm;exact⟨e,h3,by omega,h5⟩
theorem zjY{l:List Tok}{k:Nat}(hk:k<l.length):l.drop k=l.getD k jb::l.drop (k+1):=by
 rw[JP hk,bI,bE hk];rfl
theorem zny(l:List Tok)(k:Nat):qN (l.drop (k+1))=uz l k:=by
 unfold uz
 by_cases h:k+1<l.length
 ·rw[ae h,zjY h];rfl
 ·rw[ab h,Em (by omega)];rfl
theorem zoM(l:List Tok)(hK:Gl l)(hf:∀k,k<l.length->lu l k=0)(he:¬dO (dn l l.length))(hd:bA l l.length=0):
  ∀m k,k+m=l.length->j6 (dn l k) (bA l k).toNat (l.drop k)
 |0,k,e=>by
  have e':k=l.length:=by omega
  subst e';rw[List.drop_length,hd];exact⟨he,rfl⟩
 |m+1,k,e=>by
  have hk:k<l.length:=by omega
  have ih:=zoM l hK hf he hd m (k+1) (by omega);have I:=Tq l k λj hj=>hf j (by omega)
  have h0:0<=bA l k:=by rw[I.len];omega
  rw[zjY hk];have kg:=hf k hk;have cI:=hK k hk;have ep:dn l (k+1)=aZ l k:=by unfold dn;rw[ab (by omega)];rfl
  rw[ep]at ih;refine⟨?_,?_⟩
  ·rw[zny];show fits (dn l k) (bA l k).toNat (aZ l k) (uz l k);unfold lu at kg;unfold fits
   by_cases c1:aZ l k=1
   ·exact .inr (.inl c1)
   rw[ab c1]at kg
   by_cases c2:aZ l k=2
   ·rw[ae c2]at kg
    by_cases a:bA l k=0
    ·rw[ae a]at kg;exact absurd kg (by decide)
    rw[ab a]at kg
    by_cases b:dO (dn l k)
    ·rw[ae b]at kg;exact absurd kg (by decide)
    exact .inr (.inr (.inl ⟨c2,by omega,b⟩))
   rw[ab c2]at kg
   by_cases c3:aZ l k=3
   ·rw[ae c3]at kg
    by_cases b:dO (dn l k)
    ·rw[ae b]at kg;exact absurd kg (by decide)
    exact .inr (.inr (.inr (.inl ⟨c3,b⟩)))
   rw[ab c3]at kg
   by_cases c4:aZ l k=4
   ·rw[ae c4]at kg
    by_cases b:dn l k≠0/\dn l k≠2
    ·rw[ae b]at kg;exact absurd kg (by decide)
    exact .inr (.inr (.inr (.inr (.inl ⟨c4,by omega⟩))))
   rw[ab c4]at kg
   by_cases c5:aZ l k=5
   ·rw[ae c5]at kg
    by_cases b:bA l k≠0\/(dn l k≠7/\dn l k≠3)
    ·rw[ae b]at kg;exact absurd kg (by decide)
    exact .inr (.inr (.inr (.inr (.inr (.inl ⟨c5,by omega,by omega⟩)))))
   rw[ab c5]at kg
   by_cases c6:aZ l k=6
   ·rw[ae c6]at kg
    by_cases a:bA l k≠0\/(uz l k≠7/\uz l k≠3)
    ·rw[ae a]at kg;exact absurd kg (by decide)
    rw[ab a]at kg
    by_cases b:dO (dn l k)
    ·rw[ae b]at kg;exact absurd kg (by decide)
    exact .inr (.inr (.inr (.inr (.inr (.inr ⟨c6,by omega,by omega,b⟩)))))
   ·exact .inl (by omega)
  ·show j6 (aZ l k) (deep (bA l k).toNat (aZ l k)) (l.drop (k+1));have ed:(bA l (k+1)).toNat=deep (bA l k).toNat (aZ l k):=by
    show (bA l k+_).toNat=_;unfold deep;split
    ·omega
    ·split<;>omega
   rw[<-ed];exact ih
theorem zsL{l:List Tok}(hK:Gl l)(hf:∀k,k<l.length->lu l k=0)(he:¬dO (dn l l.length))(hd:bA l l.length=0):∃bs g',Rl 0 l bs g':=by
 have h:=zoM l hK hf he hd l.length 0 (by omega);exact PJ l.length 0 l 7 (.inl rfl) (ax _) h
def ziQ(l:List Tok)(k:Nat):Prop:=∀e,k<e->e<=l.length->bA l e≠bA l k
theorem zoZ{l:List Tok}(hf:∀k,k<l.length->lu l k=0)(hd:0<bA l l.length):
  ∃t,fI l l.length≠[]/\t=(fI l l.length).getD ((fI l l.length).length-1) 0/\t<l.length/\aZ l t=1/\ziQ l t/\∀k,t<k->k<l.length->aZ l k=1->¬ziQ l k:=by
 have I:=Tq l l.length hf;have hp:0<(fI l l.length).length:=by have:=I.len;omega
 refine⟨_,qh.1 hp,rfl,(I.pt _ (by omega)).1,(I.pt _ (by omega)).2.1,?_,?_⟩
 ·intro e h1 h2 h3;have h4:=I.up _ (by omega) e h1 h2;have h5:=(I.pt ((fI l l.length).length-1) (by omega)).2.2;omega
 ·intro k h1 h2 h3 hU
  by_cases vb:k∈fI l l.length
  ·obtain⟨q,hq,e⟩:=List.getElem_of_mem vb;have e':(fI l l.length).getD q 0=k:=by rw[bI,bE hq];exact e
   have a1:=I.pt q hq;have a2:=I.pt ((fI l l.length).length-1) (by omega);rw[e']at a1;have a3:=I.up ((fI l l.length).length-1) (by omega) k h1 (by omega);omega
  ·obtain⟨e,h4,h5,h6⟩:=I.shut k h2 h3 vb;exact hU e h4 h5 h6
end
section
variable {l s:List UInt8}{k i j n:Nat}{c:UInt8}{f:Nat -> Bool}{x:Tok}{b:Bool}
def aA(l:List UInt8)(k:Nat):Int:=match l[k]? with|some b=>(b.toNat:Int)|none=>-1
theorem JD(l:List UInt8)(k:Nat):-1<=aA l k/\aA l k<=255:=by
 unfold aA;split
 ·rename_i b _
  have:=b.toNat_lt;omega
 ·omega
theorem xi(l:List UInt8)(i k:Nat):aA (l.drop i) k=aA l (i+k):=by unfold aA;rw[En]
theorem zn9(h:k<l.length):aA l k=((l[k]'h).toNat:Int):=by unfold aA;rw[bE h]
theorem zme(h:l.length<=k):aA l k=-1:=by unfold aA;rw[qR h]
theorem Mt:0<=aA l k↔k<l.length:=by
 by_cases h:k<l.length
 ·rw[zn9 h];omega
 ·rw[zme (by omega)];omega
def iu(lo hi:Int):Nat->Bool:=λc=>decide (lo<=c/\(c:Int)<=hi)
def p8(f g:Nat->Bool):Nat->Bool:=λc=>f c || g c
def DI(f:Nat->Bool):Nat->Bool:=λc=>!f c
def gR:Nat->Bool:=λ_=>false
def qY(c:UInt8):List UInt8->Option (List UInt8×List UInt8)
 |[]=>zh
 |x::r=>if x=c then za ([],r) else (qY c r).map λq=>(x::q.1,q.2)
def yl(c d:UInt8):List UInt8->Option (List UInt8×List UInt8)
 |[]=>zh
 |x::r=>if x=c/\r.head?=za d then za ([],r.tail) else (yl c d r).map λq=>(x::q.1,q.2)
theorem zgI:∀{l q r:List UInt8},qY c l=za (q,r)->l=q++c::r/\c∉q
 |[],q,r,h=>by simp[qY]at h
 |x::l,q,r,h=>by
  unfold qY at h;split at h
  ·rename_i e
   cases h
   exact⟨by rw[e];rfl,by simp⟩
  ·rename_i e
   cases hc:qY c l with
   |none=>rw[hc]at h;cases h
   |some p=>
    obtain⟨a,b⟩:=p;rw[hc]at h;cases h;obtain⟨h1,h2⟩:=zgI hc;refine⟨by rw[h1];rfl,?_⟩;intro hm;rcases tn.1 hm with h3|h3
    ·exact e h3.symm
    ·exact h2 h3
theorem zjU:∀{l:List UInt8},qY c l=zh->c∉l
 |[],_=>by simp
 |x::l,h=>by
  unfold qY at h;split at h
  ·cases h
  ·rename_i e
   cases hc:qY c l with
   |none=>
    have:=zjU hc;intro hm;rcases tn.1 hm with h3|h3
    ·exact e h3.symm
    ·exact this h3
   |some p=>rw[hc]at h;cases h
def BM(c:UInt8):Bool:=decide (48<=c.toNat/\c.toNat<=57)
def F5(l:List UInt8):Nat:=l.foldl (λn c=>n*10+(c.toNat-48)) 0
def nU(l:List UInt8):Option Nat:=if 1<=l.length/\l.length<=3/\l.all BM=true/\F5 l<=255 then za (F5 l) else zh
def nS(l:List UInt8):Option (Int×Int×Nat):=
 match qY 125 l with
 |none=>zh
 |some (inner,_)=>
  match qY 44 inner with
  |none=>match nU inner with
   |none=>zh
   |some m=>za ((m:Int),(m:Int),inner.length+1)
  |some (low,high)=>
   match nU low with
   |none=>zh
   |some m=>if high=[] then za ((m:Int),-1,inner.length+1)
    else match nU high with
     |none=>zh
     |some n=>if m<=n then za ((m:Int),(n:Int),inner.length+1) else zh
def zrC:Nat->Bool:=p8 (iu 65 90) (iu 97 122)
def zov:Nat->Bool:=iu 48 57
def My:List UInt8:=[97,108,112,104,97]
def MA:List UInt8:=[100,105,103,105,116]
def Mx:List UInt8:=[97,108,110,117,109]
def ME:List UInt8:=[117,112,112,101,114]
def MB:List UInt8:=[108,111,119,101,114]
def MD:List UInt8:=[115,112,97,99,101]
def Mz:List UInt8:=[98,108,97,110,107]
def MC:List UInt8:=[112,117,110,99,116]
def Mm:List UInt8:=[120,100,105,103,105,116]
def oL(n:List UInt8):Option (Nat->Bool):=
 if n=My then za zrC else if n=MA then za zov else if n=Mx then za (p8 zrC zov)
 else if n=ME then za (iu 65 90) else if n=MB then za (iu 97 122)
 else if n=MD then za (p8 (iu 9 13) (iu 32 32)) else if n=Mz then za (p8 (iu 9 9) (iu 32 32))
 else if n=MC then za (p8 (p8 (p8 (iu 33 47) (iu 58 64)) (iu 91 96)) (iu 123 126))
 else if n=Mm then za (p8 (p8 zov (iu 65 70)) (iu 97 102)) else zh
def j5(l:List UInt8):Option ((Nat->Bool)×Nat):=
 if aA l 0=91/\aA l 1=58 then
  match yl 58 93 (l.drop 2) with
  |none=>zh
  |some (name,_)=>match oL name with
   |none=>zh
   |some f=>za (f,name.length+4)
 else if aA l 0=91/\(aA l 1=46\/aA l 1=61) then zh
 else if aA l 1=45/\0<=aA l 2/\aA l 2≠93 then
  if (aA l 2=91/\(aA l 3=46\/aA l 3=61\/aA l 3=58))\/aA l 2<aA l 0 then zh else za (iu (aA l 0) (aA l 2),3)
 else za (iu (aA l 0) (aA l 0),1)
theorem zke(h:j5 l=za (f,k)):0<k:=by
 unfold j5 at h;split at h
 ·split at h
  ·cases h
  ·split at h
   ·cases h
   ·cases h;omega
 ·split at h
  ·cases h
  ·split at h
   ·split at h
    ·cases h
    ·cases h;omega
   ·cases h;omega
def qL(l:List UInt8)(f:Nat->Bool)(n:Nat)(first:Bool):Option ((Nat->Bool)×Nat):=
 if _hl:l=[] then zh
 else if aA l 0=93/\first=false then za (f,n+1)
 else match _hi:j5 l with
  |none=>zh
  |some (g,k)=>qL (l.drop k) (p8 f g) (n+k) false
 termination_by l.length
 decreasing_by
 have:=zke _hi;have:0<l.length:=qh.2 _hl;simp;omega
def sV(l:List UInt8):Option ((Nat->Bool)×Nat):=
 if aA l 0=94 then (qL (l.drop 1) gR 1 true).map λq=>(DI q.1,q.2) else qL l gR 0 true
def D3(c:Int):Bool:=[92,94,46,91,93,36,40,41,124,42,43,63,123,125].any λx=>decide ((x:Int)=c)
def fL(s:List UInt8)(i:Nat):Int ⊕ (Tok×Nat):=
 if aA s i=94 then .inr (⟨5,i,gR,0,0⟩,i+1)
 else if aA s i=36 then .inr (⟨6,i,gR,0,0⟩,i+1)
 else if aA s i=40 then .inr (⟨1,i,gR,0,0⟩,i+1)
 else if aA s i=41 then .inr (⟨2,i,gR,0,0⟩,i+1)
 else if aA s i=124 then .inr (⟨3,i,gR,0,0⟩,i+1)
 else if aA s i=42 then .inr (⟨4,i,gR,0,-1⟩,i+1)
 else if aA s i=43 then .inr (⟨4,i,gR,1,-1⟩,i+1)
 else if aA s i=63 then .inr (⟨4,i,gR,0,1⟩,i+1)
 else if aA s i=123 then
  match nS (s.drop (i+1)) with
  |none=>.inl 4
  |some (m,n,k)=>.inr (⟨4,i,gR,m,n⟩,i+1+k)
 else if aA s i=91 then
  match sV (s.drop (i+1)) with
  |none=>.inl 3
  |some (f,k)=>.inr (⟨0,i,f,0,0⟩,i+1+k)
 else if aA s i=46 then .inr (⟨0,i,DI gR,0,0⟩,i+1)
 else if aA s i=92 then (if D3 (aA s (i+1))=true then .inr (⟨0,i,iu (aA s (i+1)) (aA s (i+1)),0,0⟩,i+2) else .inl 2)
 else .inr (⟨0,i,iu (aA s i) (aA s i),0,0⟩,i+1)
theorem T6(h:fL s i=.inr (x,j)):i<j/\x.kind<7/\x.pos=i:=by
 unfold fL at h
 by_cases EY:aA s i=94
 ·rw[ae EY]at h;cases h;exact⟨by omega,by simp,rfl⟩
 rw[ab EY]at h
 by_cases EO:aA s i=36
 ·rw[ae EO]at h;cases h;exact⟨by omega,by simp,rfl⟩
 rw[ab EO]at h
 by_cases EP:aA s i=40
 ·rw[ae EP]at h;cases h;exact⟨by omega,by simp,rfl⟩
 rw[ab EP]at h
 by_cases EQ:aA s i=41
 ·rw[ae EQ]at h;cases h;exact⟨by omega,by simp,rfl⟩
 rw[ab EQ]at h
 by_cases EN:aA s i=124
 ·rw[ae EN]at h;cases h;exact⟨by omega,by simp,rfl⟩
 rw[ab EN]at h
 by_cases ER:aA s i=42
 ·rw[ae ER]at h;cases h;exact⟨by omega,by simp,rfl⟩
 rw[ab ER]at h
 by_cases ES:aA s i=43
 ·rw[ae ES]at h;cases h;exact⟨by omega,by simp,rfl⟩
 rw[ab ES]at h
 by_cases EU:aA s i=63
 ·rw[ae EU]at h;cases h;exact⟨by omega,by simp,rfl⟩
 rw[ab EU]at h
 by_cases EM:aA s i=123
 ·rw[ae EM]at h;cases hf:nS (s.drop (i+1)) with
  |none=>rw[hf]at h;cases h
  |some q=>rw[hf]at h;cases h;exact⟨by omega,by simp,rfl⟩
 rw[ab EM]at h
 by_cases EW:aA s i=91
 ·rw[ae EW]at h;cases hf:sV (s.drop (i+1)) with
  |none=>rw[hf]at h;cases h
  |some q=>rw[hf]at h;cases h;exact⟨by omega,by simp,rfl⟩
 rw[ab EW]at h
 by_cases ET:aA s i=46
 ·rw[ae ET]at h;cases h;exact⟨by omega,by simp,rfl⟩
 rw[ab ET]at h
 by_cases EX:aA s i=92
 ·rw[ae EX]at h;cases hf:D3 (aA s (i+1)) with
  |false=>rw[hf,ab (by decide)]at h;cases h
  |true=>rw[hf,ae rfl]at h;cases h;exact⟨by omega,by simp,rfl⟩
 rw[ab EX]at h;cases h;exact⟨by omega,by simp,rfl⟩
def kL(s:List UInt8)(i:Nat)(l:List Tok):List Tok×Int×Nat:=
 if _h:i<s.length then
  match _ht:fL s i with
  |.inl c=>(l,c,i)
  |.inr (x,j)=>kL s j (l++[x])
 else (l,0,0)
 termination_by s.length-i
 decreasing_by
 have:=(T6 _ht).1;omega
theorem zje{l:List Tok}(h:¬i<s.length):kL s i l=(l,0,0):=by rw[kL,dif_neg h]
theorem Ju{l:List Tok}{c:Int}(h:i<s.length)(ht:fL s i=.inl c):kL s i l=(l,c,i):=by
 rw[kL,dif_pos h];split
 ·rename_i c' e;rw[ht]at e;cases e;rfl
 ·rename_i x j e;rw[ht]at e;cases e
theorem zmz{l:List Tok}(h:i<s.length)(ht:fL s i=.inr (x,j)):kL s i l=kL s j (l++[x]):=by
 rw[kL,dif_pos h];split
 ·rename_i c' e;rw[ht]at e;cases e
 ·rename_i x' j' e;rw[ht]at e;cases e;rfl
theorem zig:qL [] f n b=zh:=by rw[qL,dif_pos rfl]
theorem znA(h:aA l 0=93):qL l f n false=za (f,n+1):=by
 have hl:l≠[]:=λe=>by subst e;exact absurd h (by decide)
 rw[qL,dif_neg hl,ae ⟨h,rfl⟩]
theorem znz(h:¬(aA l 0=93/\b=false))(hi:j5 l=zh):qL l f n b=zh:=by
 by_cases hl:l=[]
 ·subst hl;exact zig
 rw[qL,dif_neg hl,ab h];split
 ·rfl
 ·rename_i g k e;rw[hi]at e;cases e
theorem znB{g:Nat->Bool}(hl:l≠[])(h:¬(aA l 0=93/\b=false))(hi:j5 l=za (g,k)):qL l f n b=qL (l.drop k) (p8 f g) (n+k) false:=by
 rw[qL,dif_neg hl,ab h];split
 ·rename_i e;rw[hi]at e;cases e
 ·rename_i g' k' e;rw[hi]at e;cases e;rfl
end
theorem Uc(t:ByteArray)(a b:Nat):(t.extract a b).data.toList=(t.data.toList.drop a).take (b-a):=by
 simp[ByteArray.data_extract,List.extract]
theorem zqs{a:ByteArray}{l:List UInt8}(h:a.data.toList=l):a=⟨l.toArray⟩:=by subst h;cases a;simp
theorem zhA(b:ByteArray):∀(n i:Nat) (r:List UInt8),b.size-i=n->ByteArray.toList.loop b i r=r.reverse++b.data.toList.drop i
 |0,i,r,h=>by
  rw[ByteArray.toList.loop,ab (by omega),Em (by rw[jf];show b.size<=i;omega)];simp
 |n+1,i,r,h=>by
  have hi:i<b.data.size:=by show i<b.size;omega
  have hg:b.get! i=b.data[i]:=by simp only[ByteArray.get!];exact getElem!_pos b.data i hi
  rw[ByteArray.toList.loop,ae (by omega),zhA b n (i+1) _ (by omega),JP (i:=i) (by simpa using hi),hg];simp
theorem Ci(b:ByteArray):b.toList=b.data.toList:=by
 unfold ByteArray.toList;rw[zhA b b.size 0 [] (by omega)];simp
def zvz(l:List UInt8):Value:=.string ⟨l.toArray⟩
section
variable {t:ByteArray}{k:Nat}
theorem T8(h:k<t.size):aA t.data.toList k=(t[k].toNat:Int):=by
 rw[zn9 (by rw[jf];exact h)]
 rfl
theorem zqm(h:¬k<t.size):aA t.data.toList k=-1:=zme (by rw[jf];show t.size<=k;omega)
theorem DY(t:ByteArray)(k:Nat)(ci:Int)(w:World)(Le:ci=k):
  Calls prog 84 #[.string t,.int .i64 ci] w λe w'=>e=.returned (.int .i64 (aA t.data.toList k))/\w'=w:=by
 subst Le;have h0:(0:Int)<=(k:Int):=by omega
 by_cases hk:k<t.size
 ·rw[T8 hk];have h1:(k:Int)<(t.size:Int):=by omega
  have hc:t[k].toNat<256:=t[k].toNat_lt
  go_enter func84,ntmps84
  go_wp2;go_ret;exact⟨rfl,rfl⟩
 ·rw[zqm hk];have h1:(t.size:Int)<=(k:Int):=by omega
  go_enter func84,ntmps84
  go_wp2;go_ret;exact⟨rfl,rfl⟩
def Jv:List UInt8:=[92,94,46,91,93,36,40,41,124,42,43,63,123,125]
theorem zl4(c:Int):D3 c=Jv.any λx=>decide ((x.toNat:Int)=c):=by
 unfold D3 Jv
 rfl
theorem zqk{l:List UInt8}{p:UInt8->Bool}{j:Nat}(hj:j<l.length)(h:(l.take j).any p=false):(l.take (j+1)).any p=p l[j]:=by
 rw[vD hj,List.any_append,h];simp
theorem zhT(c:Int)(w:World):
  Calls prog 85 #[.int .i64 c] w λe w'=>e=.returned (.bool (D3 c))/\w'=w:=by
 rw[zl4]
 go_enter func85,ntmps85
 go_wp2;obtain⟨S,hS⟩:∃S:ByteArray,S=⟨#[92,94,46,91,93,36,40,41,124,42,43,63,123,125]⟩:=⟨_,rfl⟩;rw[<-hS];have hsz:S.size=14:=by rw[hS];rfl
 have hl:Jv=S.data.toList:=by rw[hS];rfl
 have HL:Hid _:=hl;clear hS hl
 go_loop [4] (λi=>∃j:Nat,j<=14/\i=.int .i64 j/\Hid ((Jv.take j).any (λx=>decide ((x.toNat:Int)=c))=false)) (λi=>14-(intOf i).toNat)
 case atStart=>exact⟨0,by omega,rfl,rfl⟩
 case round=>
  obtain⟨j,hj,rfl,hn⟩:=hrel
  by_cases hlt:j<14
  ·have IH:j<S.size:=by omega
   have rB:((14:Int))=(S.size:Int):=by omega
   have Hnx:Hid ((Jv.take (j+1)).any (λx=>decide ((x.toNat:Int)=c))=decide ((S[j].toNat:Int)=c)):=by
    have e8:j<S.data.toList.length:=by rw[jf];exact IH
    have:=hn.out;show _=_;rw[HL.out]at this ⊢;rw[zqk e8 this]
    rfl
   have hc:S[j].toNat<256:=S[j].toNat_lt;have h1:(j:Int)<(S.size:Int):=by omega
   clear rB
   by_cases he:(S[j].toNat:Int)=c
   ·have qn:Hid (Jv.any (λx=>decide ((x.toNat:Int)=c))=true):=by
     show _=_;have h2:=Hnx.out;rw[decide_eq_true he]at h2;rw[List.any_eq_true]at h2 ⊢;obtain⟨x,hx,hp⟩:=h2;exact⟨x,List.mem_of_mem_take hx,hp⟩
    go_wp2;go_ret;exact⟨dD qn.out.symm,rfl⟩
   ·go_wp2
    go_round
    case rel=>exact⟨j+1,by omega,by go_num,by show _=_;rw[Hnx.out];simp[he]⟩
    case measure=>simp[intOf];omega
  ·have zAw:j=14:=by omega
   subst zAw;have qn:Hid (Jv.any (λx=>decide ((x.toNat:Int)=c))=false):=hn.out;go_wp2;go_ret;exact⟨dD qn.out.symm,rfl⟩
end
def vo(o:Option Nat):Int:=match o with|some n=>(n:Int)|none=>-1
theorem zhC(l:List UInt8)(x:UInt8):F5 (l++[x])=F5 l*10+(x.toNat-48):=by simp[F5]
theorem zmn(x:UInt8):BM x=aT x.toNat 48 57:=by
 unfold BM aT;rw[decide_eq_decide];omega
theorem zp4:∀(n:Nat) (l:List UInt8),l.length=n->l.all BM=true->F5 l<10 ^ n
 |0,l,h,_=>by have:l=[]:=qj h;subst this;decide
 |n+1,l,h,ha=>by
  have hne:l≠[]:=λe=>by subst e;simp at h
  have e:=List.dropLast_concat_getLast hne;rw[<-e,vG]at ha;have ha':=Bool.and_eq_true_iff.1 ha;have ih:=zp4 n l.dropLast (by simp[h]) ha'.1;have hd:BM (l.getLast hne)=true:=by simpa using ha'.2
  unfold BM at hd;have wD:=of_decide_eq_true hd;rw[<-e,zhC,Nat.pow_succ];omega
theorem Un{t:ByteArray}{j:Nat}(hj:j<t.size):t.data.toList.take (j+1)=t.data.toList.take j++[t[j]]:=by
 rw[vD (by rw[jf];exact hj)]
 rfl
theorem zfB(t:ByteArray)(w:World):
  Calls prog 92 #[.string t] w λe w'=>e=.returned (.int .i64 (vo (nU t.data.toList)))/\w'=w:=by
 have hlen:t.data.toList.length=t.size:=jf
 by_cases h1:t.size<1
 ·have hs:(t.size:Int)<1:=by omega
  have HR:Hid (vo (nU t.data.toList)=-1):=by show _=_;unfold nU;rw[ab (by omega)];rfl
  clear hlen
  go_enter func92,ntmps92
  go_wp2;go_ret;exact⟨gq HR.out.symm,rfl⟩
 by_cases h3:3<t.size
 ·have hs:¬(t.size:Int)<1:=by omega
  have rB:(3:Int)<(t.size:Int):=by omega
  have HR:Hid (vo (nU t.data.toList)=-1):=by show _=_;unfold nU;rw[ab (by omega)];rfl
  clear hlen
  go_enter func92,ntmps92
  go_wp2;go_ret;exact⟨gq HR.out.symm,rfl⟩
 have hs:¬(t.size:Int)<1:=by omega
 have rB:¬(3:Int)<(t.size:Int):=by omega
 have Bt:Hid _:=hlen;clear hlen
 go_enter func92,ntmps92
 go_wp2
 go_loop [3,4] (λn i=>∃j m:Nat,j<=t.size/\i=.int .i64 j/\n=.int .i64 (m:Int)/\m<1000/\Hid (m=F5 (t.data.toList.take j)/\(t.data.toList.take j).all BM=true)) (λ_ i=>t.size-(intOf i).toNat)
 case atStart=>exact⟨0,0,by omega,rfl,rfl,by omega,rfl,rfl⟩
 case round=>
  obtain⟨j,m,hj,rfl,rfl,hm,hv⟩:=hrel
  by_cases hlt:j<t.size
  ·have hc:t[j].toNat<256:=t[j].toNat_lt;have zZ:(j:Int)<(t.size:Int):=by omega
   cases hd:BM t[j]
   ·have HR:Hid (vo (nU t.data.toList)=-1):=by
     show _=_;unfold nU;rw[ab]
     ·rfl
     ·rintro ⟨_,_,ha,_⟩;rw[qQ]at ha;have e8:j<t.data.toList.length:=by rw[jf];exact hlt
      have:=ha t[j] (gy e8);rw[hd]at this;cases this
    rw[zmn]at hd
    go_wp2_with fail
    refine(lp _ _ _ _).mono ?_;rintro e w' ⟨rfl,rfl⟩;rw[hd];go_wp2;go_ret;exact⟨gq HR.out.symm,rfl⟩
   ·have fF:48<=t[j].toNat/\t[j].toNat<=57:=by unfold BM at hd;exact of_decide_eq_true hd
    have hb:=zp4 (j+1) (t.data.toList.take (j+1)) (by rw[nr,Bt.out];omega) (by rw[Un hlt,vG,hv.out.2];simpa using hd);rw[Un hlt,zhC,<-hv.out.1]at hb;have Hn:Hid (m*10+(t[j].toNat-48)=F5 (t.data.toList.take (j+1))/\(t.data.toList.take (j+1)).all BM=true):=by
     refine⟨?_,?_⟩
     ·rw[Un hlt,zhC,<-hv.out.1]
     ·rw[Un hlt,vG,hv.out.2];simpa using hd
    have cN:m*10+(t[j].toNat-48)<1000:=by
     have:(10:Nat) ^ (j+1)<=10 ^ 3:=Nat.pow_le_pow_right (by omega) (by omega);omega
    rw[zmn]at hd;clear hb
    go_wp2_with fail
    refine(lp _ _ _ _).mono ?_;rintro e w' ⟨rfl,rfl⟩;rw[hd];go_wp2
    go_round
    case rel=>exact⟨j+1,m*10+(t[j].toNat-48),by omega,by go_num,by go_num,cN,Hn⟩
    case measure=>simp[intOf];omega
  ·have me:j=t.size:=by omega
   have HR:Hid (vo (nU t.data.toList)=if 255<m then -1 else (m:Int)):=by
    have e:t.data.toList.take j=t.data.toList:=tj (by rw[Bt.out];omega);have h:=hv.out;rw[e]at h;show _=_;unfold nU;rw[<-h.1,Bt.out]
    by_cases fY:255<m
    ·rw[ab (by omega),ae fY];rfl
    ·rw[ae ⟨by omega,by omega,h.2,by omega⟩,ab fY];rfl
   by_cases fY:255<m
   ·have lN:(255:Int)<(m:Int):=by omega
    have vO:Hid (vo (nU t.data.toList)=-1):=by show _=_;rw[HR.out,ae fY]
    go_wp2;go_ret;exact⟨gq vO.out.symm,rfl⟩
   ·have lN:¬(255:Int)<(m:Int):=by omega
    have vO:Hid (vo (nU t.data.toList)=(m:Int)):=by show _=_;rw[HR.out,ab fY]
    go_wp2;go_ret;exact⟨gq vO.out.symm,rfl⟩
end Go.Proofs.Ytfajjdgkiilhfaa
