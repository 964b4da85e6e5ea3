import Derived.Test.YtfajjdgkiilhfaaGreatDoorC7
namespace Go.Proofs.YtfajjdgkiilhfaaGreatDoor
open Proofs.Tryz
open Option renaming some->za,none->zb
set_option maxHeartbeats 1000000
set_option maxRecDepth 100000
open Go.RowKit
attribute [local go_sem ↓] wp_at_zero wp_at_succ
structure Tok where
 kind:Nat
 pos:Nat
 set:Nat->Bool
 mn:Int
 mx:Int
def zZ(f:Nat->Bool)(l:List (Int×Int))(c:Nat):List (Int×Int):=
 if f c then (if 0<c/\f (c-1)=true then l.dropLast++[((l.getLast?.getD (0,0)).1,(c:Int))] else l++[((c:Int),(c:Int))]) else l
def ix(f:Nat->Bool):Nat->List (Int×Int)
 |0=>[]
 |c+1=>zZ f (ix f c) c
def tX:aC:=⟨2,[],0,0,0⟩
def F9:aC:=⟨3,[],0,0,0⟩
def Oj(f:Nat->Bool):aC:=⟨1,ix f 256,0,0,0⟩
def H6(mn mx:Int):aC:=⟨4,[],mn,mx,0⟩
def Js(g:Nat):aC:=⟨5,[],0,0,(g:Int)⟩
inductive Gr:Nat->Nat->List Tok->Nat->List aC->Nat->Prop
 |atom {g:Nat} {a:Tok}:a.kind=0->Gr 0 g [a] 0 [Oj a.set] g
 |dX {g g' n:Nat} {o c:Tok} {l:List Tok} {ns:List aC}:o.kind=1->Gr 3 (g+1) l (n+1) ns g'->c.kind=2->Gr 0 g (o::(l++[c])) 0 (ns++List.replicate n F9++[Js (g+1)]) g'
 |bare {g g':Nat} {l:List Tok} {ns:List aC}:Gr 0 g l 0 ns g'->Gr 1 g l 0 ns g'
 |jI {g g':Nat} {l:List Tok} {ns:List aC} {r:Tok}:Gr 0 g l 0 ns g'->r.kind=4->Gr 1 g (l++[r]) 0 (ns++[H6 r.mn r.mx]) g'
 |one {g g':Nat} {l:List Tok} {ns:List aC}:Gr 1 g l 0 ns g'->Gr 2 g l 1 ns g'
 |more {g g1 g2 n:Nat} {l m:List Tok} {ns ms:List aC}:Gr 1 g l 0 ns g1->Gr 2 g1 m n ms g2->Gr 2 g (l++m) (n+1) (ns++ms) g2
 |eH {g g' n:Nat} {l:List Tok} {ns:List aC}:Gr 2 g l (n+1) ns g'->Gr 3 g l 1 (ns++List.replicate n tX) g'
 |alts {g g1 g2 n k:Nat} {l m:List Tok} {b:Tok} {ns ms:List aC}:Gr 2 g l (n+1) ns g1->b.kind=3->Gr 3 g1 m k ms g2->Gr 3 g (l++b::m) (k+1) (ns++List.replicate n tX++ms) g2
inductive Br:Nat->List Tok->dc->Nat->Prop
 |none {g g' n:Nat} {l:List Tok} {ns:List aC}:Gr 2 g l (n+1) ns g'->Br g l ⟨false,false,ns++List.replicate n tX⟩ g'
 |bol {g g' n:Nat} {l:List Tok} {ns:List aC} {x:Tok}:x.kind=5->Gr 2 g l (n+1) ns g'->Br g (x::l) ⟨true,false,ns++List.replicate n tX⟩ g'
 |eol {g g' n:Nat} {l:List Tok} {ns:List aC} {y:Tok}:y.kind=6->Gr 2 g l (n+1) ns g'->Br g (l++[y]) ⟨false,true,ns++List.replicate n tX⟩ g'
 |both {g g' n:Nat} {l:List Tok} {ns:List aC} {x y:Tok}:x.kind=5->y.kind=6->Gr 2 g l (n+1) ns g'->Br g (x::(l++[y])) ⟨true,true,ns++List.replicate n tX⟩ g'
inductive Rl:Nat->List Tok->List dc->Nat->Prop
 |one {g g':Nat} {l:List Tok} {b:dc}:Br g l b g'->Rl g l [b] g'
 |more {g g1 g2:Nat} {l m:List Tok} {b:dc} {x:Tok} {bs:List dc}:Br g l b g1->x.kind=3->Rl g1 m bs g2->Rl g (l++x::m) (b::bs) g2
def dZ(prev:Nat):Prop:=prev=7\/prev=1\/prev=3\/prev=5
def qS(l:List Tok):Nat:=match l with | []=>7|x::_=>x.kind
def fits(prev d x next:Nat):Prop:=
 (x=0)\/(x=1)\/(x=2/\d≠0/\¬dZ prev)\/(x=3/\¬dZ prev)\/(x=4/\(prev=0\/prev=2))\/(x=5/\d=0/\(prev=7\/prev=3))\/(x=6/\d=0/\(next=7\/next=3)/\¬dZ prev)
def deep(d x:Nat):Nat:=if x=1 then d+1 else if x=2 then d-1 else d
def jM:Nat->Nat->List Tok->Prop
 |prev,d,[]=>¬dZ prev/\d=0
 |prev,d,x::l=>fits prev d x.kind (qS l)/\jM x.kind (deep d x.kind) l
def Ft(k:Nat):Prop:=k=0\/k=2\/k=4
theorem zqu(N:Nat)(hA:∀(g d:Nat) (l:List Tok),l.length<N->jM 1 (d+1) l->∃body c rest n ns g',l=body++c::rest/\c.kind=2/\Gr 3 g body (n+1) ns g'/\jM 2 d rest)
  (g prev d:Nat) (x:Tok) (l:List Tok) (hN:(x::l).length<=N) (h:jM prev d (x::l)) (hx:x.kind=0\/x.kind=1):
  ∃a rest ns g' k,x::l=a++rest/\a≠[]/\Gr 0 g a 0 ns g'/\(k=0\/k=2)/\jM k d rest:=by
 rcases hx with hx|hx
 ·refine⟨[x],l,_,g,0,rfl,by simp,.atom hx,.inl rfl,?_⟩;have:=h.2;rw[hx]at this
  simpa [deep]using this
 ·have h2:=h.2;rw[hx]at h2;have h3:jM 1 (d+1) l:=by simpa [deep]using h2
  obtain⟨body,c,rest,n,ns,g',rfl,hc,hG,hg⟩:=hA (g+1) d l (by simp at hN;omega) h3;exact⟨x::(body++[c]),rest,_,g',2,by simp,by simp,.dX hx hG hc,.inr rfl,hg⟩
theorem zsA(N:Nat)(hA:∀(g d:Nat) (l:List Tok),l.length<N->jM 1 (d+1) l->∃body c rest n ns g',l=body++c::rest/\c.kind=2/\Gr 3 g body (n+1) ns g'/\jM 2 d rest)
  (g prev d:Nat) (x:Tok) (l:List Tok) (hN:(x::l).length<=N) (h:jM prev d (x::l)) (hx:x.kind=0\/x.kind=1):
  ∃a rest ns g' k,x::l=a++rest/\a≠[]/\Gr 1 g a 0 ns g'/\Ft k/\qS rest≠4/\jM k d rest:=by
 obtain⟨a,rest,ns,g',k,e,hne,hG,hk,hg⟩:=zqu N hA g prev d x l hN h hx;cases rest with
 |nil=>exact⟨a,[],ns,g',k,e,hne,.bare hG,by unfold Ft;omega,by simp[qS],hg⟩
 |cons r rest=>
  by_cases hr:r.kind=4
  ·have h2:=hg.2;rw[hr]at h2;have h3:jM 4 d rest:=by simpa [deep]using h2
   refine⟨a++[r],rest,_,g',4,by rw[e];simp,by simp,.jI hG hr,by unfold Ft;omega,?_,h3⟩;cases rest with
   |nil=>simp[qS]
   |cons y rest=>
    intro h4;have Wl:y.kind=4:=h4;have h5:=h3.1;rw[Wl]at h5;unfold fits at h5;omega
  ·exact⟨a,r::rest,ns,g',k,e,hne,.bare hG,by unfold Ft;omega,hr,hg⟩
theorem zhy(N:Nat)(hA:∀(g d:Nat) (l:List Tok),l.length<N->jM 1 (d+1) l->∃body c rest n ns g',l=body++c::rest/\c.kind=2/\Gr 3 g body (n+1) ns g'/\jM 2 d rest):
  ∀(M g prev d:Nat) (x:Tok) (l:List Tok),(x::l).length<=M->M<=N->jM prev d (x::l)->(x.kind=0\/x.kind=1)->
  ∃a rest n ns g' k,x::l=a++rest/\a≠[]/\Gr 2 g a (n+1) ns g'/\Ft k/\qS rest≠0/\qS rest≠1/\qS rest≠4/\jM k d rest
 |0,g,prev,d,x,l,hM,_,_,_=>by simp at hM
 |M+1,g,prev,d,x,l,hM,hMN,h,hx=>by
  obtain⟨a,rest,ns,g',k,e,hne,hG,hk,h4,hg⟩:=zsA N hA g prev d x l (by omega) h hx;cases rest with
  |nil=>exact⟨a,[],0,ns,g',k,e,hne,.one hG,hk,by simp[qS],by simp[qS],h4,hg⟩
  |cons y rest=>
   by_cases hy:y.kind=0\/y.kind=1
   ·have hlen:(y::rest).length<=M:=by
     have:=congrArg List.length e;simp only[lW,aQ]at this hM ⊢;have:0<a.length:=pC.2 hne;omega
    obtain⟨b,Y6,n,ms,g2,k2,e2,Kd,WK,bu,h0,h1,h42,dE⟩:=zhy N hA M g' k d y rest hlen (by omega) hg hy;exact⟨a++b,Y6,n+1,ns++ms,g2,k2,by rw[e,e2];simp,by simp[hne],.more hG WK,bu,h0,h1,h42,dE⟩
   ·exact⟨a,y::rest,0,ns,g',k,e,hne,.one hG,hk,λh=>hy (.inl h),λh=>hy (.inr h),h4,hg⟩
theorem zhz:∀(N g d:Nat) (l:List Tok) (prev:Nat),(prev=1\/prev=3)->l.length<=N->jM prev (d+1) l->∃body c rest n ns g',l=body++c::rest/\c.kind=2/\Gr 3 g body (n+1) ns g'/\jM 2 d rest
 |0,g,d,l,prev,_,hl,h=>by
  have:l=[]:=qV (by omega);subst this;exact absurd h.2 (by omega)
 |N+1,g,d,l,prev,hp,hl,h=>by
  cases l with
  |nil=>exact absurd h.2 (by omega)
  |cons x l=>
   have hx:x.kind=0\/x.kind=1:=by
    have:=h.1;unfold fits dZ at this;omega
   obtain⟨a,rest,n,ns,g',k,e,hne,hG,hk,h0,h1,h4,hg⟩:=zhy (N+1) (λg d l hl h=>zhz N g d l 1 (.inl rfl) (by omega) h) (N+1) g prev (d+1) x l hl (aq _) h hx;cases rest with
   |nil=>exact absurd hg.2 (by omega)
   |cons y rest=>
    have hy:=hg.1;have h0':y.kind≠0:=h0;have BX:y.kind≠1:=h1;have Wl:y.kind≠4:=h4;have pW:y.kind=2\/y.kind=3:=by unfold fits at hy;omega
    have h2:=hg.2;rcases pW with pW|pW
    ·rw[pW]at h2;have h3:jM 2 d rest:=by simpa [deep]using h2
     exact⟨a,y,rest,0,_,g',e,pW,.eH hG,h3⟩
    ·rw[pW]at h2;have h3:jM 3 (d+1) rest:=by simpa [deep]using h2
     have hlen:rest.length<=N:=by
      have:=congrArg List.length e;simp only[lW,aQ]at this hl;omega
     obtain⟨body,c,Y6,m,ms,g2,e2,hc,WK,dE⟩:=zhz N g' d rest 3 (.inr rfl) hlen h3;exact⟨a++y::body,c,Y6,m+1,_,g2,by rw[e,e2];simp,hc,.alts hG pW WK,dE⟩
theorem znJ(g prev d:Nat)(x:Tok)(l:List Tok)(h:jM prev d (x::l))(hx:x.kind=0\/x.kind=1):
  ∃a rest n ns g' k,x::l=a++rest/\a≠[]/\Gr 2 g a (n+1) ns g'/\Ft k/\qS rest≠0/\qS rest≠1/\qS rest≠4/\jM k d rest:=
 zhy (x::l).length (λg d l _ h=>zhz l.length g d l 1 (.inl rfl) (aq _) h) (x::l).length g prev d x l (aq _) (aq _) h hx
theorem zk4{k:Nat}{rest:List Tok}(hk:Ft k)(h0:qS rest≠0)(h1:qS rest≠1)(h4:qS rest≠4)(hg:jM k 0 rest):
  rest=[]\/(∃b m,rest=b::m/\b.kind=3/\jM 3 0 m)\/(∃y,rest=[y]/\y.kind=6)\/∃y b m,rest=y::b::m/\y.kind=6/\b.kind=3/\jM 3 0 m:=by
 cases rest with
 |nil=>exact .inl rfl
 |cons y rest=>
  have h0':y.kind≠0:=h0;have BX:y.kind≠1:=h1;have Wl:y.kind≠4:=h4;have hy:=hg.1;have h2:=hg.2;unfold fits at hy;have bC:k≠7/\k≠3:=by unfold Ft at hk;omega
  have pW:y.kind=3\/(y.kind=6/\(qS rest=7\/qS rest=3)):=by omega
  rcases pW with pW|⟨pW,hn⟩
  ·rw[pW]at h2;exact .inr (.inl ⟨y,rest,rfl,pW,by simpa [deep]using h2⟩)
  ·rw[pW]at h2;have h3:jM 6 0 rest:=by simpa [deep]using h2
   cases rest with
   |nil=>exact .inr (.inr (.inl ⟨y,rfl,pW⟩))
   |cons b m=>
    have hb:b.kind=3:=by
     rcases hn with hn|hn
     ·have ij:b.kind=7:=hn;have:=h3.1;unfold fits at this;omega
     ·exact hn
    have h5:=h3.2;rw[hb]at h5;exact .inr (.inr (.inr ⟨y,b,m,rfl,pW,hb,by simpa [deep]using h5⟩))
theorem OK:∀(N g:Nat) (l:List Tok) (prev:Nat),(prev=7\/prev=3)->l.length<=N->jM prev 0 l->∃bs g',Rl g l bs g'
 |0,g,l,prev,hp,hl,h=>by
  have:l=[]:=qV (by omega);subst this;exact absurd (show dZ prev by unfold dZ;omega) h.1
 |N+1,g,l,prev,hp,hl,h=>by
  cases l with
  |nil=>exact absurd (show dZ prev by unfold dZ;omega) h.1
  |cons x l=>
   by_cases CC:x.kind=5
   ·have h2:=h.2;rw[CC]at h2;have h3:jM 5 0 l:=by simpa [deep]using h2
    cases l with
    |nil=>exact absurd (show dZ 5 by unfold dZ;omega) h3.1
    |cons z l=>
     have hz:z.kind=0\/z.kind=1:=by
      have:=h3.1;unfold fits dZ at this;omega
     obtain⟨a,rest,n,ns,g',k,e,hne,hG,hk,h0,h1,h4,hg⟩:=znJ g 5 0 z l h3 hz;rw[e];have jo:rest.length+1<=N:=by
      have:=congrArg List.length e;simp only[lW,aQ]at this hl;have:0<a.length:=pC.2 hne;omega
     rcases zk4 hk h0 h1 h4 hg with rfl|⟨b,m,rfl,hb,hm⟩|⟨y,rfl,hy⟩|⟨y,b,m,rfl,hy,hb,hm⟩
     ·exact⟨_,g',by rw[List.append_nil];exact .one (.bol CC hG)⟩
     ·obtain⟨bs,g2,hR⟩:=OK N g' m 3 (.inr rfl) (by simp at jo;omega) hm;exact⟨_,g2,Rl.more (l:=x::a) (.bol CC hG) hb hR⟩
     ·exact⟨_,g',.one (.both CC hy hG)⟩
     ·obtain⟨bs,g2,hR⟩:=OK N g' m 3 (.inr rfl) (by simp at jo;omega) hm;have:=Rl.more (l:=x::(a++[y])) (.both CC hy hG) hb hR;have e3:x::(a++y::b::m)=(x::(a++[y]))++b::m:=by simp
      rw[e3];exact⟨_,g2,this⟩
   ·have hx:x.kind=0\/x.kind=1:=by
     have:=h.1;unfold fits dZ at this;omega
    obtain⟨a,rest,n,ns,g',k,e,hne,hG,hk,h0,h1,h4,hg⟩:=znJ g prev 0 x l h hx;rw[e];have jo:rest.length+1<=N+1:=by
     have:=congrArg List.length e;simp only[lW,aQ]at this hl;have:0<a.length:=pC.2 hne;omega
    rcases zk4 hk h0 h1 h4 hg with rfl|⟨b,m,rfl,hb,hm⟩|⟨y,rfl,hy⟩|⟨y,b,m,rfl,hy,hb,hm⟩
    ·exact⟨_,g',by rw[List.append_nil];exact .one (.none hG)⟩
    ·obtain⟨bs,g2,hR⟩:=OK N g' m 3 (.inr rfl) (by simp at jo;omega) hm;exact⟨_,g2,Rl.more (l:=a) (.none hG) hb hR⟩
    ·exact⟨_,g',.one (.eol hy hG)⟩
    ·obtain⟨bs,g2,hR⟩:=OK N g' m 3 (.inr rfl) (by simp at jo;omega) hm;have:=Rl.more (l:=a++[y]) (.eol hy hG) hb hR;have e3:a++y::b::m=(a++[y])++b::m:=by simp
     rw[e3];exact⟨_,g2,this⟩
section
variable {l:List Nat}{x q:Nat}
def iP:Tok:=⟨0,0,λ_=>false,0,0⟩
def aS(l:List Tok)(k:Nat):Nat:=(l.getD k iP).kind
def aX(l:List Tok):Nat->Int
 |0=>0
 |k+1=>aX l k+(if aS l k=1 then 1 else if aS l k=2 then -1 else 0)
def dh(l:List Tok):Nat->Nat
 |0=>0
 |k+1=>dh l k+(if aS l k=1 then 1 else 0)
def dx(l:List Tok)(k:Nat):Nat:=if k=0 then 7 else aS l (k-1)
def uj(l:List Tok)(k:Nat):Nat:=if k+1<l.length then aS l (k+1) else 7
instance zEd (p:Nat):Decidable (dZ p):=inferInstanceAs (Decidable (_\/_\/_\/_))
def lu(l:List Tok)(k:Nat):Int:=
 if aS l k=1 then (if 500<dh l (k+1) then 9 else 0)
 else if aS l k=2 then (if aX l k=0 then 7 else if dZ (dx l k) then 6 else 0)
 else if aS l k=3 then (if dZ (dx l k) then 6 else 0)
 else if aS l k=4 then (if dx l k≠0/\dx l k≠2 then 6 else 0)
 else if aS l k=5 then (if aX l k≠0\/(dx l k≠7/\dx l k≠3) then 5 else 0)
 else if aS l k=6 then (if aX l k≠0\/(uj l k≠7/\uj l k≠3) then 5 else if dZ (dx l k) then 6 else 0)
 else 0
def Fu(l:List Tok):Prop:=∀k,k<l.length->aS l k<7
def fL(l:List Tok):Nat->List Nat
 |0=>[]
 |k+1=>if aS l k=1 then fL l k++[k] else if aS l k=2 then (fL l k).dropLast else fL l k
structure zAx(l:List Tok)(n:Nat):Prop where
 len:aX l n=((fL l n).length:Int)
 pt:∀q,q<(fL l n).length->(fL l n).getD q 0<n/\aS l ((fL l n).getD q 0)=1/\aX l ((fL l n).getD q 0)=(q:Int)
 up:∀q,q<(fL l n).length->∀e,(fL l n).getD q 0<e->e<=n->(q:Int)+1<=aX l e
 shut:∀k,k<n->aS l k=1->k∉fL l n->∃e,k<e/\e<=n/\aX l e=aX l k
theorem zgr(h:q<l.length):(l++[x]).getD q 0=l.getD q 0:=by
 simp[List.getD,List.getElem?_append_left h]
theorem zgq(l:List Nat)(x:Nat):(l++[x]).getD l.length 0=x:=by simp[List.getD]
theorem zfu(h:q+1<l.length):l.dropLast.getD q 0=l.getD q 0:=by
 simp only[List.getD];rw[List.getElem?_dropLast,af (by omega)]
theorem zls(h:x∈l)(hn:x∉l.dropLast):l≠[]/\x=l.getD (l.length-1) 0:=by
 have hne:l≠[]:=by intro e;subst e;simp at h
 refine⟨hne,?_⟩;have e:=List.dropLast_concat_getLast hne;rw[<-e]at h;rcases gH.1 h with h|h
 ·exact absurd h hn
 ·simp at h;rw[h,List.getLast_eq_getElem,bJ,bE (by have:=pC.2 hne;omega)]
  rfl
theorem SL(l:List Tok):∀n,(∀k,k<n->lu l k=0)->zAx l n
 |0,_=>⟨rfl,λq h=>absurd h (by simp[fL]),λq h=>absurd h (by simp[fL]),λk h=>absurd h (by omega)⟩
 |n+1,hf=>by
  have I:=SL l n λk hk=>hf k (by omega)
  have hn:=hf n (by omega)
  by_cases h1:aS l n=1
  ·have es:fL l (n+1)=fL l n++[n]:=by show (if aS l n=1 then _ else _)=_;rw[af h1]
   have ed:aX l (n+1)=aX l n+1:=by show aX l n+_=_;rw[af h1]
   refine⟨by rw[es,ed,I.len];simp,?_,?_,?_⟩
   ·intro q hq;rw[es]at hq ⊢
    by_cases e:q<(fL l n).length
    ·rw[zgr e];have:=I.pt q e;exact⟨by omega,this.2⟩
    ·have e2:q=(fL l n).length:=by simp at hq;omega
     subst e2;rw[zgq];exact⟨by omega,h1,I.len⟩
   ·intro q hq e h2 h3;rw[es]at hq h2
    by_cases e1:q<(fL l n).length
    ·rw[zgr e1]at h2
     by_cases e3:e=n+1
     ·subst e3;rw[ed,I.len];omega
     ·exact I.up q e1 e h2 (by omega)
    ·have e2:q=(fL l n).length:=by simp at hq;omega
     subst e2;rw[zgq]at h2;have:e=n+1:=by omega
     subst this;rw[ed,I.len];omega
   ·intro k hk bO hm;rw[es]at hm;have kz:k≠n:=λe=>hm (by simp[e])
    obtain⟨e,h2,h3,h4⟩:=I.shut k (by omega) bO (λh=>hm (by simp[h]));exact⟨e,h2,by omega,h4⟩
  ·by_cases h2:aS l n=2
   ·have es:fL l (n+1)=(fL l n).dropLast:=by show (if aS l n=1 then _ else if aS l n=2 then _ else _)=_;rw[ab h1,af h2]
    have ed:aX l (n+1)=aX l n-1:=by show aX l n+_=_;rw[ab h1,af h2];omega
    have hd:aX l n≠0:=by
     intro hd;unfold lu at hn;rw[ab h1,af h2,af hd]at hn;omega
    have oJ:0<(fL l n).length:=by have:=I.len;omega
    have hl:(fL l n).dropLast.length=(fL l n).length-1:=by simp
    refine⟨by rw[es,ed,I.len,hl];omega,?_,?_,?_⟩
    ·intro q hq;rw[es]at hq ⊢;rw[zfu (by omega)];have:=I.pt q (by omega);exact⟨by omega,this.2⟩
    ·intro q hq e h3 h4;rw[es]at hq h3;rw[zfu (by omega)]at h3
     by_cases e3:e=n+1
     ·subst e3;rw[ed,I.len];omega
     ·exact I.up q (by omega) e h3 (by omega)
    ·intro k hk bO hm;rw[es]at hm
     by_cases kz:k=n
     ·subst kz;omega
     by_cases oF:k∈fL l n
     ·obtain⟨_,e⟩:=zls oF hm;have:=I.pt ((fL l n).length-1) (by omega);rw[<-e]at this;exact⟨n+1,by omega,by omega,by rw[ed,I.len,this.2.2];omega⟩
     ·obtain⟨e,h3,h4,h5⟩:=I.shut k (by omega) bO oF;exact⟨e,h3,by omega,h5⟩
   ·have es:fL l (n+1)=fL l n:=by show (if aS l n=1 then _ else if aS l n=2 then _ else _)=_;rw[ab h1,ab h2]
    have ed:aX l (n+1)=aX l n:=by show aX l n+_=_;rw[ab h1,ab h2];omega
    refine⟨by rw[es,ed,I.len],?_,?_,?_⟩
    ·intro q hq;rw[es]at hq ⊢;have:=I.pt q hq;exact⟨by omega,this.2⟩
    ·intro q hq e h3 h4;rw[es]at hq h3
     by_cases e3:e=n+1
     ·subst e3;rw[ed,I.len];omega
     ·exact I.up q hq e h3 (by omega)
    ·intro k hk bO hm;rw[es]at hm;have kz:k≠n:=λe=>h1 (e ▸ bO)
     obtain⟨e,h3,h4,h5⟩:=I.shut k (by omega) bO hm;exact⟨e,h3,by omega,h5⟩
theorem zkR{l:List Tok}{k:Nat}(hk:k<l.length):l.drop k=l.getD k iP::l.drop (k+1):=by
 rw[Dn hk,bJ,bE hk];rfl
theorem zoV(l:List Tok)(k:Nat):qS (l.drop (k+1))=uj l k:=by
 unfold uj
 by_cases h:k+1<l.length
 ·rw[af h,zkR h];rfl
 ·rw[ab h,Bn (by omega)];rfl
theorem zqv(l:List Tok)(hK:Fu l)(hf:∀k,k<l.length->lu l k=0)(he:¬dZ (dx l l.length))(hd:aX l l.length=0):
  ∀m k,k+m=l.length->jM (dx l k) (aX l k).toNat (l.drop k)
 |0,k,e=>by
  have e':k=l.length:=by omega
  subst e';rw[List.drop_length,hd];exact⟨he,rfl⟩
 |m+1,k,e=>by
  have hk:k<l.length:=by omega
  have ih:=zqv l hK hf he hd m (k+1) (by omega);have I:=SL l k λj hj=>hf j (by omega)
  have h0:0<=aX l k:=by rw[I.len];omega
  rw[zkR hk];have jZ:=hf k hk;have cC:=hK k hk;have ep:dx l (k+1)=aS l k:=by unfold dx;rw[ab (by omega)];rfl
  rw[ep]at ih;refine⟨?_,?_⟩
  ·rw[zoV];show fits (dx l k) (aX l k).toNat (aS l k) (uj l k);unfold lu at jZ;unfold fits
   by_cases c1:aS l k=1
   ·exact .inr (.inl c1)
   rw[ab c1]at jZ
   by_cases c2:aS l k=2
   ·rw[af c2]at jZ
    by_cases a:aX l k=0
    ·rw[af a]at jZ;exact absurd jZ (by decide)
    rw[ab a]at jZ
    by_cases b:dZ (dx l k)
    ·rw[af b]at jZ;exact absurd jZ (by decide)
    exact .inr (.inr (.inl ⟨c2,by omega,b⟩))
   rw[ab c2]at jZ
   by_cases c3:aS l k=3
   ·rw[af c3]at jZ
    by_cases b:dZ (dx l k)
    ·rw[af b]at jZ;exact absurd jZ (by decide)
    exact .inr (.inr (.inr (.inl ⟨c3,b⟩)))
   rw[ab c3]at jZ
   by_cases c4:aS l k=4
   ·rw[af c4]at jZ
    by_cases b:dx l k≠0/\dx l k≠2
    ·rw[af b]at jZ;exact absurd jZ (by decide)
    exact .inr (.inr (.inr (.inr (.inl ⟨c4,by omega⟩))))
   rw[ab c4]at jZ
   by_cases c5:aS l k=5
   ·rw[af c5]at jZ
    by_cases b:aX l k≠0\/(dx l k≠7/\dx l k≠3)
    ·rw[af b]at jZ;exact absurd jZ (by decide)
    exact .inr (.inr (.inr (.inr (.inr (.inl ⟨c5,by omega,by omega⟩)))))
   rw[ab c5]at jZ
   by_cases c6:aS l k=6
   ·rw[af c6]at jZ
    by_cases a:aX l k≠0\/(uj l k≠7/\uj l k≠3)
    ·rw[af a]at jZ;exact absurd jZ (by decide)
    rw[ab a]at jZ
    by_cases b:dZ (dx l k)
    ·rw[af b]at jZ;exact absurd jZ (by decide)
    exact .inr (.inr (.inr (.inr (.inr (.inr ⟨c6,by omega,by omega,b⟩)))))
   ·exact .inl (by omega)
  ·show jM (aS l k) (deep (aX l k).toNat (aS l k)) (l.drop (k+1));have ed:(aX l (k+1)).toNat=deep (aX l k).toNat (aS l k):=by
    show (aX l k+_).toNat=_;unfold deep;split
    ·omega
    ·split<;>omega
   rw[<-ed];exact ih
theorem zuH{l:List Tok}(hK:Fu l)(hf:∀k,k<l.length->lu l k=0)(he:¬dZ (dx l l.length))(hd:aX l l.length=0):∃bs g',Rl 0 l bs g':=by
 have h:=zqv l hK hf he hd l.length 0 (by omega);exact OK l.length 0 l 7 (.inl rfl) (aq _) h
def zjB(l:List Tok)(k:Nat):Prop:=∀e,k<e->e<=l.length->aX l e≠aX l k
theorem zqI{l:List Tok}(hf:∀k,k<l.length->lu l k=0)(hd:0<aX l l.length):
  ∃t,fL l l.length≠[]/\t=(fL l l.length).getD ((fL l l.length).length-1) 0/\t<l.length/\aS l t=1/\zjB l t/\∀k,t<k->k<l.length->aS l k=1->¬zjB l k:=by
 have I:=SL l l.length hf;have hp:0<(fL l l.length).length:=by have:=I.len;omega
 refine⟨_,pC.1 hp,rfl,(I.pt _ (by omega)).1,(I.pt _ (by omega)).2.1,?_,?_⟩
 ·intro e h1 h2 h3;have h4:=I.up _ (by omega) e h1 h2;have h5:=(I.pt ((fL l l.length).length-1) (by omega)).2.2;omega
 ·intro k h1 h2 h3 hU
  by_cases oF:k∈fL l l.length
  ·obtain⟨q,hq,e⟩:=List.getElem_of_mem oF;have e':(fL l l.length).getD q 0=k:=by rw[bJ,bE hq];exact e
   have a1:=I.pt q hq;have a2:=I.pt ((fL l l.length).length-1) (by omega);rw[e']at a1;have a3:=I.up ((fL l l.length).length-1) (by omega) k h1 (by omega);omega
  ·obtain⟨e,h4,h5,h6⟩:=I.shut k h2 h3 oF;exact hU e h4 h5 h6
end
section
variable {l s:List UInt8}{k i j n:Nat}{c:UInt8}{f:Nat -> Bool}{x:Tok}{b:Bool}
def aA(l:List UInt8)(k:Nat):Int:=match l[k]? with|some b=>(b.toNat:Int)|none=>-1
theorem Iz(l:List UInt8)(k:Nat):-1<=aA l k/\aA l k<=255:=by
 unfold aA;split
 ·rename_i b _
  have:=b.toNat_lt;omega
 ·omega
theorem wF(l:List UInt8)(i k:Nat):aA (l.drop i) k=aA l (i+k):=by unfold aA;rw[Dq]
theorem zpC(h:k<l.length):aA l k=((l[k]'h).toNat:Int):=by unfold aA;rw[bE h]
theorem znu(h:l.length<=k):aA l k=-1:=by unfold aA;rw[Bo h]
theorem Lp:0<=aA l k↔k<l.length:=by
 by_cases h:k<l.length
 ·rw[zpC h];omega
 ·rw[znu (by omega)];omega
def iq(lo hi:Int):Nat->Bool:=λc=>decide (lo<=c/\(c:Int)<=hi)
def p8(f g:Nat->Bool):Nat->Bool:=λc=>f c || g c
def CH(f:Nat->Bool):Nat->Bool:=λc=>!f c
def gU:Nat->Bool:=λ_=>false
def ri(c:UInt8):List UInt8->Option (List UInt8×List UInt8)
 |[]=>zb
 |x::r=>if x=c then za ([],r) else (ri c r).map λq=>(x::q.1,q.2)
def xA(c d:UInt8):List UInt8->Option (List UInt8×List UInt8)
 |[]=>zb
 |x::r=>if x=c/\r.head?=za d then za ([],r.tail) else (xA c d r).map λq=>(x::q.1,q.2)
theorem zhp:∀{l q r:List UInt8},ri c l=za (q,r)->l=q++c::r/\c∉q
 |[],q,r,h=>by simp[ri]at h
 |x::l,q,r,h=>by
  unfold ri at h;split at h
  ·rename_i e
   cases h
   exact⟨by rw[e];rfl,by simp⟩
  ·rename_i e
   cases hc:ri c l with
   |none=>rw[hc]at h;cases h
   |some p=>
    obtain⟨a,b⟩:=p;rw[hc]at h;cases h;obtain⟨h1,h2⟩:=zhp hc;refine⟨by rw[h1];rfl,?_⟩;intro hm;rcases pD.1 hm with h3|h3
    ·exact e h3.symm
    ·exact h2 h3
theorem zkN:∀{l:List UInt8},ri c l=zb->c∉l
 |[],_=>by simp
 |x::l,h=>by
  unfold ri at h;split at h
  ·cases h
  ·rename_i e
   cases hc:ri c l with
   |none=>
    have:=zkN hc;intro hm;rcases pD.1 hm with h3|h3
    ·exact e h3.symm
    ·exact this h3
   |some p=>rw[hc]at h;cases h
def AM(c:UInt8):Bool:=decide (48<=c.toNat/\c.toNat<=57)
def E4(l:List UInt8):Nat:=l.foldl (λn c=>n*10+(c.toNat-48)) 0
def nZ(l:List UInt8):Option Nat:=if 1<=l.length/\l.length<=3/\l.all AM=true/\E4 l<=255 then za (E4 l) else zb
def nW(l:List UInt8):Option (Int×Int×Nat):=
 match ri 125 l with
 |none=>zb
 |some (inner,_)=>
  match ri 44 inner with
  |none=>match nZ inner with
   |none=>zb
   |some m=>za ((m:Int),(m:Int),inner.length+1)
  |some (low,high)=>
   match nZ low with
   |none=>zb
   |some m=>if high=[] then za ((m:Int),-1,inner.length+1)
    else match nZ high with
     |none=>zb
     |some n=>if m<=n then za ((m:Int),(n:Int),inner.length+1) else zb
def ztu:Nat->Bool:=p8 (iq 65 90) (iq 97 122)
def zp4:Nat->Bool:=iq 48 57
def Lr:List UInt8:=[97,108,112,104,97]
def Lu:List UInt8:=[100,105,103,105,116]
def Lm:List UInt8:=[97,108,110,117,109]
def Lz:List UInt8:=[117,112,112,101,114]
def Lv:List UInt8:=[108,111,119,101,114]
def Lx:List UInt8:=[115,112,97,99,101]
def Lt:List UInt8:=[98,108,97,110,107]
def Lw:List UInt8:=[112,117,110,99,116]
def Li:List UInt8:=[120,100,105,103,105,116]
def oN(n:List UInt8):Option (Nat->Bool):=
 if n=Lr then za ztu else if n=Lu then za zp4 else if n=Lm then za (p8 ztu zp4)
 else if n=Lz then za (iq 65 90) else if n=Lv then za (iq 97 122)
 else if n=Lx then za (p8 (iq 9 13) (iq 32 32)) else if n=Lt then za (p8 (iq 9 9) (iq 32 32))
 else if n=Lw then za (p8 (p8 (p8 (iq 33 47) (iq 58 64)) (iq 91 96)) (iq 123 126))
 else if n=Li then za (p8 (p8 zp4 (iq 65 70)) (iq 97 102)) else zb
def jN(l:List UInt8):Option ((Nat->Bool)×Nat):=
 if aA l 0=91/\aA l 1=58 then
  match xA 58 93 (l.drop 2) with
  |none=>zb
  |some (name,_)=>match oN name with
   |none=>zb
   |some f=>za (f,name.length+4)
 else if aA l 0=91/\(aA l 1=46\/aA l 1=61) then zb
 else if aA l 1=45/\0<=aA l 2/\aA l 2≠93 then
  if (aA l 2=91/\(aA l 3=46\/aA l 3=61\/aA l 3=58))\/aA l 2<aA l 0 then zb else za (iq (aA l 0) (aA l 2),3)
 else za (iq (aA l 0) (aA l 0),1)
theorem zlh(h:jN l=za (f,k)):0<k:=by
 unfold jN at h;split at h
 ·split at h
  ·cases h
  ·split at h
   ·cases h
   ·cases h;omega
 ·split at h
  ·cases h
  ·split at h
   ·split at h
    ·cases h
    ·cases h;omega
   ·cases h;omega
def qN(l:List UInt8)(f:Nat->Bool)(n:Nat)(first:Bool):Option ((Nat->Bool)×Nat):=
 if _hl:l=[] then zb
 else if aA l 0=93/\first=false then za (f,n+1)
 else match _hi:jN l with
  |none=>zb
  |some (g,k)=>qN (l.drop k) (p8 f g) (n+k) false
 termination_by l.length
 decreasing_by
 have:=zlh _hi;have:0<l.length:=pC.2 _hl;simp;omega
def sP(l:List UInt8):Option ((Nat->Bool)×Nat):=
 if aA l 0=94 then (qN (l.drop 1) gU 1 true).map λq=>(CH q.1,q.2) else qN l gU 0 true
def C3(c:Int):Bool:=[92,94,46,91,93,36,40,41,124,42,43,63,123,125].any λx=>decide ((x:Int)=c)
def fS(s:List UInt8)(i:Nat):Int ⊕ (Tok×Nat):=
 if aA s i=94 then .inr (⟨5,i,gU,0,0⟩,i+1)
 else if aA s i=36 then .inr (⟨6,i,gU,0,0⟩,i+1)
 else if aA s i=40 then .inr (⟨1,i,gU,0,0⟩,i+1)
 else if aA s i=41 then .inr (⟨2,i,gU,0,0⟩,i+1)
 else if aA s i=124 then .inr (⟨3,i,gU,0,0⟩,i+1)
 else if aA s i=42 then .inr (⟨4,i,gU,0,-1⟩,i+1)
 else if aA s i=43 then .inr (⟨4,i,gU,1,-1⟩,i+1)
 else if aA s i=63 then .inr (⟨4,i,gU,0,1⟩,i+1)
 else if aA s i=123 then
  match nW (s.drop (i+1)) with
  |none=>.inl 4
  |some (m,n,k)=>.inr (⟨4,i,gU,m,n⟩,i+1+k)
 else if aA s i=91 then
  match sP (s.drop (i+1)) with
  |none=>.inl 3
  |some (f,k)=>.inr (⟨0,i,f,0,0⟩,i+1+k)
 else if aA s i=46 then .inr (⟨0,i,CH gU,0,0⟩,i+1)
 else if aA s i=92 then (if C3 (aA s (i+1))=true then .inr (⟨0,i,iq (aA s (i+1)) (aA s (i+1)),0,0⟩,i+2) else .inl 2)
 else .inr (⟨0,i,iq (aA s i) (aA s i),0,0⟩,i+1)
theorem Tv(h:fS s i=.inr (x,j)):i<j/\x.kind<7/\x.pos=i:=by
 unfold fS at h
 by_cases D5:aA s i=94
 ·rw[af D5]at h;cases h;exact⟨by omega,by simp,rfl⟩
 rw[ab D5]at h
 by_cases DV:aA s i=36
 ·rw[af DV]at h;cases h;exact⟨by omega,by simp,rfl⟩
 rw[ab DV]at h
 by_cases DW:aA s i=40
 ·rw[af DW]at h;cases h;exact⟨by omega,by simp,rfl⟩
 rw[ab DW]at h
 by_cases DX:aA s i=41
 ·rw[af DX]at h;cases h;exact⟨by omega,by simp,rfl⟩
 rw[ab DX]at h
 by_cases DU:aA s i=124
 ·rw[af DU]at h;cases h;exact⟨by omega,by simp,rfl⟩
 rw[ab DU]at h
 by_cases DY:aA s i=42
 ·rw[af DY]at h;cases h;exact⟨by omega,by simp,rfl⟩
 rw[ab DY]at h
 by_cases DZ:aA s i=43
 ·rw[af DZ]at h;cases h;exact⟨by omega,by simp,rfl⟩
 rw[ab DZ]at h
 by_cases D1:aA s i=63
 ·rw[af D1]at h;cases h;exact⟨by omega,by simp,rfl⟩
 rw[ab D1]at h
 by_cases DT:aA s i=123
 ·rw[af DT]at h;cases hf:nW (s.drop (i+1)) with
  |none=>rw[hf]at h;cases h
  |some q=>rw[hf]at h;cases h;exact⟨by omega,by simp,rfl⟩
 rw[ab DT]at h
 by_cases D3:aA s i=91
 ·rw[af D3]at h;cases hf:sP (s.drop (i+1)) with
  |none=>rw[hf]at h;cases h
  |some q=>rw[hf]at h;cases h;exact⟨by omega,by simp,rfl⟩
 rw[ab D3]at h
 by_cases D0:aA s i=46
 ·rw[af D0]at h;cases h;exact⟨by omega,by simp,rfl⟩
 rw[ab D0]at h
 by_cases D4:aA s i=92
 ·rw[af D4]at h;cases hf:C3 (aA s (i+1)) with
  |false=>rw[hf,ab (by decide)]at h;cases h
  |true=>rw[hf,af rfl]at h;cases h;exact⟨by omega,by simp,rfl⟩
 rw[ab D4]at h;cases h;exact⟨by omega,by simp,rfl⟩
def kE(s:List UInt8)(i:Nat)(l:List Tok):List Tok×Int×Nat:=
 if _h:i<s.length then
  match _ht:fS s i with
  |.inl c=>(l,c,i)
  |.inr (x,j)=>kE s j (l++[x])
 else (l,0,0)
 termination_by s.length-i
 decreasing_by
 have:=(Tv _ht).1;omega
theorem zj3{l:List Tok}(h:¬i<s.length):kE s i l=(l,0,0):=by rw[kE,dif_neg h]
theorem Im{l:List Tok}{c:Int}(h:i<s.length)(ht:fS s i=.inl c):kE s i l=(l,c,i):=by
 rw[kE,dif_pos h];split
 ·rename_i c' e;rw[ht]at e;cases e;rfl
 ·rename_i x j e;rw[ht]at e;cases e
theorem znT{l:List Tok}(h:i<s.length)(ht:fS s i=.inr (x,j)):kE s i l=kE s j (l++[x]):=by
 rw[kE,dif_pos h];split
 ·rename_i c' e;rw[ht]at e;cases e
 ·rename_i x' j' e;rw[ht]at e;cases e;rfl
theorem zi2:qN [] f n b=zb:=by rw[qN,dif_pos rfl]
theorem zoY(h:aA l 0=93):qN l f n false=za (f,n+1):=by
 have hl:l≠[]:=λe=>by subst e;exact absurd h (by decide)
 rw[qN,dif_neg hl,af ⟨h,rfl⟩]
theorem zoX(h:¬(aA l 0=93/\b=false))(hi:jN l=zb):qN l f n b=zb:=by
 by_cases hl:l=[]
 ·subst hl;exact zi2
 rw[qN,dif_neg hl,ab h];split
 ·rfl
 ·rename_i g k e;rw[hi]at e;cases e
theorem zoZ{g:Nat->Bool}(hl:l≠[])(h:¬(aA l 0=93/\b=false))(hi:jN l=za (g,k)):qN l f n b=qN (l.drop k) (p8 f g) (n+k) false:=by
 rw[qN,dif_neg hl,ab h];split
 ·rename_i e;rw[hi]at e;cases e
 ·rename_i g' k' e;rw[hi]at e;cases e;rfl
end
theorem TX(t:ByteArray)(a b:Nat):(t.extract a b).data.toList=(t.data.toList.drop a).take (b-a):=by
 simp[ByteArray.data_extract,List.extract]
theorem zsj{a:ByteArray}{l:List UInt8}(h:a.data.toList=l):a=⟨l.toArray⟩:=by subst h;cases a;simp
theorem zik(b:ByteArray):∀(n i:Nat) (r:List UInt8),b.size-i=n->ByteArray.toList.loop b i r=r.reverse++b.data.toList.drop i
 |0,i,r,h=>by
  rw[ByteArray.toList.loop,ab (by omega),Bn (by rw[iW];show b.size<=i;omega)];simp
 |n+1,i,r,h=>by
  have hi:i<b.data.size:=by show i<b.size;omega
  have hg:b.get! i=b.data[i]:=by simp only[ByteArray.get!];exact getElem!_pos b.data i hi
  rw[ByteArray.toList.loop,af (by omega),zik b n (i+1) _ (by omega),Dn (i:=i) (by simpa using hi),hg];simp
theorem A4(b:ByteArray):b.toList=b.data.toList:=by
 unfold ByteArray.toList;rw[zik b b.size 0 [] (by omega)];simp
def Y9(l:List UInt8):Value:=.string ⟨l.toArray⟩
section
variable {t:ByteArray}{k:Nat}
theorem TT(h:k<t.size):aA t.data.toList k=(t[k].toNat:Int):=by
 rw[zpC (by rw[iW];exact h)]
 rfl
theorem zsa(h:¬k<t.size):aA t.data.toList k=-1:=znu (by rw[iW];show t.size<=k;omega)
theorem CV(t:ByteArray)(k:Nat)(ci:Int)(w:World)(JS:ci=k):
  Calls prog 95 #[.string t,.int .i64 ci] w λe w'=>e=.returned (.int .i64 (aA t.data.toList k))/\w'=w:=by
 subst JS;have h0:(0:Int)<=(k:Int):=by omega
 by_cases hk:k<t.size
 ·rw[TT hk];have h1:(k:Int)<(t.size:Int):=by omega
  have hc:t[k].toNat<256:=t[k].toNat_lt
  go_enter func95,ntmps95
  go_wp2;go_ret;exact⟨rfl,rfl⟩
 ·rw[zsa hk];have h1:(t.size:Int)<=(k:Int):=by omega
  go_enter func95,ntmps95
  go_wp2;go_ret;exact⟨rfl,rfl⟩
def Io:List UInt8:=[92,94,46,91,93,36,40,41,124,42,43,63,123,125]
theorem znk(c:Int):C3 c=Io.any λx=>decide ((x.toNat:Int)=c):=by
 unfold C3 Io
 rfl
theorem zr8{l:List UInt8}{p:UInt8->Bool}{j:Nat}(hj:j<l.length)(h:(l.take j).any p=false):(l.take (j+1)).any p=p l[j]:=by
 rw[oh hj,List.any_append,h];simp
theorem ziC(c:Int)(w:World):
  Calls prog 96 #[.int .i64 c] w λe w'=>e=.returned (.bool (C3 c))/\w'=w:=by
 rw[znk]
 go_enter func96,ntmps96
 go_wp2;obtain⟨S,hS⟩:∃S:ByteArray,S=⟨#[92,94,46,91,93,36,40,41,124,42,43,63,123,125]⟩:=⟨_,rfl⟩;rw[<-hS];have hsz:S.size=14:=by rw[hS];rfl
 have hl:Io=S.data.toList:=by rw[hS];rfl
 have HL:Hid _:=hl;clear hS hl
 go_loop [4] (λi=>∃j:Nat,j<=14/\i=.int .i64 j/\Hid ((Io.take j).any (λx=>decide ((x.toNat:Int)=c))=false)) (λi=>14-(intOf i).toNat)
 case atStart=>exact⟨0,by omega,rfl,rfl⟩
 case round=>
  obtain⟨j,hj,rfl,hn⟩:=hrel
  by_cases hlt:j<14
  ·have GM:j<S.size:=by omega
   have pV:((14:Int))=(S.size:Int):=by omega
   have Hnx:Hid ((Io.take (j+1)).any (λx=>decide ((x.toNat:Int)=c))=decide ((S[j].toNat:Int)=c)):=by
    have iD:j<S.data.toList.length:=by rw[iW];exact GM
    have:=hn.out;show _=_;rw[HL.out]at this ⊢;rw[zr8 iD this]
    rfl
   have hc:S[j].toNat<256:=S[j].toNat_lt;have h1:(j:Int)<(S.size:Int):=by omega
   clear pV
   by_cases he:(S[j].toNat:Int)=c
   ·have qs:Hid (Io.any (λx=>decide ((x.toNat:Int)=c))=true):=by
     show _=_;have h2:=Hnx.out;rw[decide_eq_true he]at h2;rw[List.any_eq_true]at h2 ⊢;obtain⟨x,hx,hp⟩:=h2;exact⟨x,List.mem_of_mem_take hx,hp⟩
    go_wp2;go_ret;exact⟨cU qs.out.symm,rfl⟩
   ·go_wp2
    go_round
    case rel=>exact⟨j+1,by omega,by go_num,by show _=_;rw[Hnx.out];simp[he]⟩
    case measure=>simp[intOf];omega
  ·have zBJ:j=14:=by omega
   subst zBJ;have qs:Hid (Io.any (λx=>decide ((x.toNat:Int)=c))=false):=hn.out;go_wp2;go_ret;exact⟨cU qs.out.symm,rfl⟩
end
def uU(o:Option Nat):Int:=match o with|some n=>(n:Int)|none=>-1
theorem zim(l:List UInt8)(x:UInt8):E4 (l++[x])=E4 l*10+(x.toNat-48):=by simp[E4]
theorem znC(x:UInt8):AM x=aG x.toNat 48 57:=by
 unfold AM aG;rw[decide_eq_decide];omega
theorem zrT:∀(n:Nat) (l:List UInt8),l.length=n->l.all AM=true->E4 l<10 ^ n
 |0,l,h,_=>by have:l=[]:=qV h;subst this;decide
 |n+1,l,h,ha=>by
  have hne:l≠[]:=λe=>by subst e;simp at h
  have e:=List.dropLast_concat_getLast hne;rw[<-e,vo]at ha;have ha':=Bool.and_eq_true_iff.1 ha;have ih:=zrT n l.dropLast (by simp[h]) ha'.1;have hd:AM (l.getLast hne)=true:=by simpa using ha'.2
  unfold AM at hd;have vT:=of_decide_eq_true hd;rw[<-e,zim,Nat.pow_succ];omega
theorem T6{t:ByteArray}{j:Nat}(hj:j<t.size):t.data.toList.take (j+1)=t.data.toList.take j++[t[j]]:=by
 rw[oh (by rw[iW];exact hj)]
 rfl
theorem ZY(t:ByteArray)(w:World):
  Calls prog 103 #[.string t] w λe w'=>e=.returned (.int .i64 (uU (nZ t.data.toList)))/\w'=w:=by
 have hlen:t.data.toList.length=t.size:=iW
 by_cases h1:t.size<1
 ·have hs:(t.size:Int)<1:=by omega
  have HR:Hid (uU (nZ t.data.toList)=-1):=by show _=_;unfold nZ;rw[ab (by omega)];rfl
  clear hlen
  go_enter func103,ntmps103
  go_wp2;go_ret;exact⟨ew HR.out.symm,rfl⟩
 by_cases h3:3<t.size
 ·have hs:¬(t.size:Int)<1:=by omega
  have pV:(3:Int)<(t.size:Int):=by omega
  have HR:Hid (uU (nZ t.data.toList)=-1):=by show _=_;unfold nZ;rw[ab (by omega)];rfl
  clear hlen
  go_enter func103,ntmps103
  go_wp2;go_ret;exact⟨ew HR.out.symm,rfl⟩
 have hs:¬(t.size:Int)<1:=by omega
 have pV:¬(3:Int)<(t.size:Int):=by omega
 have uw:Hid _:=hlen;clear hlen
 go_enter func103,ntmps103
 go_wp2
 go_loop [3,4] (λn i=>∃j m:Nat,j<=t.size/\i=.int .i64 j/\n=.int .i64 (m:Int)/\m<1000/\Hid (m=E4 (t.data.toList.take j)/\(t.data.toList.take j).all AM=true)) (λ_ i=>t.size-(intOf i).toNat)
 case atStart=>exact⟨0,0,by omega,rfl,rfl,by omega,rfl,rfl⟩
 case round=>
  obtain⟨j,m,hj,rfl,rfl,hm,hv⟩:=hrel
  by_cases hlt:j<t.size
  ·have hc:t[j].toNat<256:=t[j].toNat_lt;have BX:(j:Int)<(t.size:Int):=by omega
   cases hd:AM t[j]
   ·have HR:Hid (uU (nZ t.data.toList)=-1):=by
     show _=_;unfold nZ;rw[ab]
     ·rfl
     ·rintro ⟨_,_,ha,_⟩;rw[jR]at ha;have iD:j<t.data.toList.length:=by rw[iW];exact hlt
      have:=ha t[j] (gA iD);rw[hd]at this;cases this
    rw[znC]at hd
    go_wp2_with fail
    refine(ln _ _ _ _).mono ?_;rintro e w' ⟨rfl,rfl⟩;rw[hd];go_wp2;go_ret;exact⟨ew HR.out.symm,rfl⟩
   ·have eQ:48<=t[j].toNat/\t[j].toNat<=57:=by unfold AM at hd;exact of_decide_eq_true hd
    have hb:=zrT (j+1) (t.data.toList.take (j+1)) (by rw[rP,uw.out];omega) (by rw[T6 hlt,vo,hv.out.2];simpa using hd);rw[T6 hlt,zim,<-hv.out.1]at hb;have Hn:Hid (m*10+(t[j].toNat-48)=E4 (t.data.toList.take (j+1))/\(t.data.toList.take (j+1)).all AM=true):=by
     refine⟨?_,?_⟩
     ·rw[T6 hlt,zim,<-hv.out.1]
     ·rw[T6 hlt,vo,hv.out.2];simpa using hd
    have fD:m*10+(t[j].toNat-48)<1000:=by
     have:(10:Nat) ^ (j+1)<=10 ^ 3:=Nat.pow_le_pow_right (by omega) (by omega);omega
    rw[znC]at hd;clear hb
    go_wp2_with fail
    refine(ln _ _ _ _).mono ?_;rintro e w' ⟨rfl,rfl⟩;rw[hd];go_wp2
    go_round
    case rel=>exact⟨j+1,m*10+(t[j].toNat-48),by omega,by go_num,by go_num,fD,Hn⟩
    case measure=>simp[intOf];omega
  ·have qy:j=t.size:=by omega
   have HR:Hid (uU (nZ t.data.toList)=if 255<m then -1 else (m:Int)):=by
    have e:t.data.toList.take j=t.data.toList:=sX (by rw[uw.out];omega);have h:=hv.out;rw[e]at h;show _=_;unfold nZ;rw[<-h.1,uw.out]
    by_cases fZ:255<m
    ·rw[ab (by omega),af fZ];rfl
    ·rw[af ⟨by omega,by omega,h.2,by omega⟩,ab fZ];rfl
   by_cases fZ:255<m
   ·have lL:(255:Int)<(m:Int):=by omega
    have yO:Hid (uU (nZ t.data.toList)=-1):=by show _=_;rw[HR.out,af fZ]
    go_wp2;go_ret;exact⟨ew yO.out.symm,rfl⟩
   ·have lL:¬(255:Int)<(m:Int):=by omega
    have yO:Hid (uU (nZ t.data.toList)=(m:Int)):=by show _=_;rw[HR.out,ab fZ]
    go_wp2;go_ret;exact⟨ew yO.out.symm,rfl⟩
end Go.Proofs.YtfajjdgkiilhfaaGreatDoor
