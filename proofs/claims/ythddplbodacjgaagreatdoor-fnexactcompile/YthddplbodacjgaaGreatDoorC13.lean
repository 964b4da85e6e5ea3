import Derived.Test.YthddplbodacjgaaGreatDoorC12
namespace Go.Proofs.YthddplbodacjgaaGreatDoor
set_option maxHeartbeats 2000000
set_option maxRecDepth 100000
section
open Go.RowKit
end
section
open Go.RowKit
end
section
variable {d:DfaD}
open Go.RowKit
def zhx(d:DfaD)(c:Nat):Int:=d.classes.getD c 0
def zrG(d:DfaD)(k:Nat):Int:=d.next.getD k 0
def zlG(d:DfaD)(s:Int)(c:Nat):Int:=zrG d (s*d.width+zhx d c).toNat
structure zaE(d:DfaD):Prop where
 cl:d.classes.length=256
 w1:1<=d.width
 w2:d.width<=256
 n1:1<=(d.tag.length:Int)
 n2:(d.tag.length:Int)<=4000
 fl:d.fin.length=d.tag.length
 nl:(d.next.length:Int)=d.tag.length*d.width
 cs:zcY 0 (d.width-1) d.classes=true
 ns:zcY 0 (d.tag.length-1) d.next=true
 ts:zcY (-1) 99 d.tag=true
 es:zcY (-1) 99 d.fin=true
theorem zjl(h:dfaB d=true):zaE d:=by
 simp only[dfaB,ztt,zuP,zdb] at h;obtain⟨⟨⟨⟨⟨⟨⟨⟨a,b⟩,c⟩,e⟩,f⟩,g⟩,i⟩,j⟩,k⟩:=h;exact⟨a,b.1,b.2,c.1,c.2,e,f,g,i,j,k⟩
theorem zaE.idx(h:zaE d){s:Int}{c:Nat}(h0:0<=s)(h1:s<d.tag.length)(hc:c<256):
  0<=zhx d c/\zhx d c<d.width/\0<=s*d.width/\s*d.width<=1024000/\s*d.width+zhx d c<d.next.length:=by
 have k:=zcZ h.cs (k:=c) (by have:=h.cl;omega);have a:=h.w1;have b:=h.w2;have n:=h.nl;have n2:=h.n2;have m0:0<=s*d.width:=Int.mul_nonneg h0 (by omega);have m1:s*d.width<=4000*256:=ztA (by omega) b (by omega) (by omega);have m2:(s+1)*d.width<=d.tag.length*d.width:=Int.mul_le_mul_of_nonneg_right (by omega) (by omega);rw[Int.add_mul] at m2;unfold zhx;exact⟨k.1,by omega,m0,by omega,by omega⟩
end
section
variable {fst:Bool}{c n:Nat}
structure BrG where
 rule:Nat
 bol:Bool
 eol:Bool
 ga:GA
abbrev St:=Nat->Nat->Bool
def zaZ:St:=fun _ _=>false
def stpG(bs:List BrG)(fst:Bool)(S:St)(c:Nat):St:=fun k j=>match bs[k]? with
 |none=>false
 |some b=>b.ga.st j c&&(((fst || !b.bol)&&b.ga.fst j) || (List.range b.ga.n).any fun i=>S k i&&b.ga.fol i j)
def hitG(b:BrG)(k:Nat)(fst:Bool)(S:St):Bool:=((List.range b.ga.n).any fun i=>S k i&&b.ga.lst i) || ((fst || !b.bol)&&b.ga.emp)
def ansN(bs:List BrG)(fst:Bool)(S:St)(we:Bool):Nat->Int
 |0=>-1
 |k+1=>match bs[k]? with
  |none=>ansN bs fst S we k
  |some b=>if (b.eol && !we)=true then ansN bs fst S we k else if hitG b k fst S=true/\(ansN bs fst S we k<0\/(b.rule:Int)<ansN bs fst S we k) then b.rule else ansN bs fst S we k
def ansG(bs:List BrG)(fst:Bool)(S:St)(we:Bool):Int:=ansN bs fst S we bs.length
def AnsP(bs:List BrG)(fst:Bool)(S:St)(we:Bool)(K:Nat)(a:Int):Prop:=
 (a=-1\/∃k b,k<K/\bs[k]?=some b/\a=b.rule/\(b.eol && !we)=false/\hitG b k fst S=true)/\
 ∀k b,k<K->bs[k]?=some b->(b.eol && !we)=false->hitG b k fst S=true->0<=a/\a<=b.rule
theorem zn1(bs:List BrG)(fst:Bool)(S:St)(we:Bool):∀K,AnsP bs fst S we K (ansN bs fst S we K)
 |0=>⟨.inl rfl,fun k b h=>absurd h (by omega)⟩
 |K+1=>by
  obtain⟨h1,h2⟩:=zn1 bs fst S we K;have hs:ansN bs fst S we (K+1)=match bs[K]? with
   |none=>ansN bs fst S we K
   |some b=>if (b.eol && !we)=true then ansN bs fst S we K else if hitG b K fst S=true/\(ansN bs fst S we K<0\/(b.rule:Int)<ansN bs fst S we K) then b.rule else ansN bs fst S we K:=rfl
  have up:(ansN bs fst S we K=-1\/∃k b,k<K/\bs[k]?=some b/\ansN bs fst S we K=b.rule/\(b.eol && !we)=false/\hitG b k fst S=true)->(ansN bs fst S we K=-1\/∃k b,k<K+1/\bs[k]?=some b/\ansN bs fst S we K=b.rule/\(b.eol && !we)=false/\hitG b k fst S=true):=fun h=>h.imp id fun⟨k,b,e,r⟩=>⟨k,b,by omega,r⟩
  rw[hs];cases hb:bs[K]? with
  |none=>
   refine⟨up h1,fun k b hk e1 e2 e3=>?_⟩;rcases zuC k K with q|q
   ·exact h2 k b q e1 e2 e3
   ·obtain rfl:k=K:=by omega
    rw[hb] at e1;cases e1
  |some b=>
   show AnsP bs fst S we (K+1) (if (b.eol && !we)=true then ansN bs fst S we K else if hitG b K fst S=true/\(ansN bs fst S we K<0\/(b.rule:Int)<ansN bs fst S we K) then b.rule else ansN bs fst S we K);split
   ·rename_i he
    refine⟨up h1,fun k b' hk e1 e2 e3=>?_⟩;rcases zuC k K with q|q
    ·exact h2 k b' q e1 e2 e3
    ·obtain rfl:k=K:=by omega
     rw[hb] at e1;cases e1;rw[he] at e2;cases e2
   ·rename_i he
    split
    ·rename_i hh
     refine⟨.inr ⟨K,b,by omega,hb,rfl,by simpa using he,hh.1⟩,fun k b' hk e1 e2 e3=>?_⟩;rcases zuC k K with q|q
     ·have:=h2 k b' q e1 e2 e3;refine⟨by omega,?_⟩;rcases hh.2 with h|h<;>omega
     ·obtain rfl:k=K:=by omega
      rw[hb] at e1;cases e1;exact⟨by omega,Int.le_refl _⟩
    ·rename_i hh
     refine⟨up h1,fun k b' hk e1 e2 e3=>?_⟩;rcases zuC k K with q|q
     ·exact h2 k b' q e1 e2 e3
     ·obtain rfl:k=K:=by omega
      rw[hb] at e1;cases e1;have:=not_and.1 hh e3;omega
theorem zrW{bs:List BrG}{S:St}{we:Bool}{K:Nat}{a b:Int}(h:AnsP bs fst S we K a)(k:AnsP bs fst S we K b):a=b:=by
 rcases h.1 with e|⟨i,x,h1,h2,h3,h4,h5⟩<;>rcases k.1 with e'|⟨j,y,k1,k2,k3,k4,k5⟩
 ·rw[e,e']
 ·have:=(h.2 j y k1 k2 k4 k5).1;omega
 ·have:=(k.2 i x h1 h2 h4 h5).1;omega
 ·have:=(h.2 j y k1 k2 k4 k5).2;have:=(k.2 i x h1 h2 h4 h5).2;omega
theorem zrt(bs:List BrG)(fst:Bool)(S:St)(we:Bool)(hr:∀(k:Nat) (b:BrG),bs[k]?=some b->b.rule<=99):-1<=ansG bs fst S we/\ansG bs fst S we<=99:=by
 rcases(zn1 bs fst S we bs.length).1 with e|⟨k,b,h1,h2,h3,-⟩
 ·unfold ansG;omega
 ·have:=hr k b h2;unfold ansG;omega
def posG(bs:List BrG):List (Nat->Bool):=bs.flatMap fun b=>(List.range b.ga.n).map b.ga.st
def bitN(b:Bool):Nat:=if b=true then 1 else 0
theorem zlX{a b:Bool}:bitN a=bitN b↔a=b:=by cases a<;>cases b<;>simp[bitN]
def posR(bs:List BrG)(k c:Nat):Nat:=bitN ((posG bs).getD k (fun _=>false) c)
def AlkB(bs:List BrG)(h c:Nat):Prop:=∀(k:Nat) (b:BrG) (i:Nat),bs[k]?=some b->i<b.ga.n->b.ga.st i h=b.ga.st i c
theorem zim(bs:List BrG)(h c:Nat):zbZ (posG bs).length (posR bs) h c=true↔AlkB bs h c:=by
 rw[zeh];have e:(∀k,k<(posG bs).length->posR bs k h=posR bs k c)↔∀f∈posG bs,f h=f c:=by
  constructor
  ·intro H f hf;obtain⟨k,hk,rfl⟩:=zuf.1 hf;have:=H k hk;unfold posR at this;rw[zlX] at this
   simpa [List.getD,hk] using this
  ·intro H k hk;unfold posR;rw[zlX];have:=H ((posG bs)[k]) (zt0 hk)
   simpa [List.getD,hk] using this
 rw[e];unfold posG AlkB;simp only[List.mem_flatMap,zug,zuh];constructor
 ·intro H k b i hb hi;exact H _ ⟨b,List.mem_of_getElem? hb,i,hi,rfl⟩
 ·rintro H f ⟨b,hb,i,hi,rfl⟩;obtain⟨k,hk,rfl⟩:=zuf.1 hb;exact H k _ i (ztT hk) hi
def hdsG(bs:List BrG):List Nat:=zah (posG bs).length (posR bs) 256
def clsG(bs:List BrG)(c:Nat):Nat:=clsF (posG bs).length (posR bs) c
open Classical in
noncomputable def nxtI (L:List St) (S:St):Nat:=1+L.tail.findIdx fun T=>decide (T=S)
noncomputable def updG (bs:List BrG) (fst:Bool) (S:St) (st:List St×List Nat) (c:Nat):List St×List Nat:=
 (if nxtI st.1 (stpG bs fst S c)<st.1.length then st.1 else st.1++[stpG bs fst S c],st.2++[nxtI st.1 (stpG bs fst S c)])
noncomputable def zb6 (bs:List BrG) (fst:Bool) (S:St) (st:List St×List Nat) (m:Nat):List St×List Nat:=((hdsG bs).take m).foldl (updG bs fst S) st
noncomputable def runG (bs:List BrG):Nat->List St×List Nat
 |0=>([zaZ],[])
 |k+1=>zb6 bs (k==0) ((runG bs k).1.getD k zaZ) (runG bs k) (hdsG bs).length
theorem zj1(bs:List BrG)(fst:Bool)(S:St)(st:List St×List Nat):zb6 bs fst S st 0=st:=rfl
theorem zes(bs:List BrG)(fst:Bool)(S:St)(st:List St×List Nat){m:Nat}(h:m<(hdsG bs).length):zb6 bs fst S st (m+1)=updG bs fst S (zb6 bs fst S st m) ((hdsG bs).getD m 0):=by
 unfold zb6;rw[List.take_add_one,ztT h,Option.toList_some,List.foldl_append];simp[List.getD,h]
theorem zpT{bs:List BrG}{S:St}{st:List St×List Nat}:st.1.length<=(updG bs fst S st c).1.length/\(updG bs fst S st c).1.length<=st.1.length+1:=by
 have e:(updG bs fst S st c).1=if nxtI st.1 (stpG bs fst S c)<st.1.length then st.1 else st.1++[stpG bs fst S c]:=rfl
 rw[e];split
 ·exact⟨zuz _,by omega⟩
 ·rw[zt1];simp
theorem zq8{bs:List BrG}{S:St}{st:List St×List Nat}(P:List St×List Nat->Prop)(h0:P st)(hs:∀x c,P x->P (updG bs fst S x c)):∀m,P (zb6 bs fst S st m):=by
 intro m;unfold zb6;generalize (hdsG bs).take m=l;clear m
 induction l generalizing st with
 |nil=>exact h0
 |cons a l ih=>exact ih (hs _ _ h0)
theorem zsL{bs:List BrG}{S:St}{st:List St×List Nat}:∃l,(updG bs fst S st c).1=st.1++l:=by
 have e:(updG bs fst S st c).1=if nxtI st.1 (stpG bs fst S c)<st.1.length then st.1 else st.1++[stpG bs fst S c]:=rfl
 rw[e];split
 ·exact⟨[],by simp⟩
 ·exact⟨_,rfl⟩
theorem zms(bs:List BrG)(fst:Bool)(S:St)(st:List St×List Nat)(m:Nat):∃l,(zb6 bs fst S st m).1=st.1++l:=
 zq8 (fun x=>∃l,x.1=st.1++l) ⟨[],by simp⟩ (fun x c ⟨l,h⟩=>by
  obtain⟨l2,h2⟩:=zsL (bs:=bs) (fst:=fst) (S:=S) (st:=x) (c:=c);exact⟨l++l2,by rw[h2,h,ztD]⟩) m
theorem zmr(bs:List BrG)(fst:Bool)(S:St)(st:List St×List Nat)(m:Nat):st.1.length<=(zb6 bs fst S st m).1.length:=by
 obtain⟨l,h⟩:=zms bs fst S st m;rw[h,zt1];omega
theorem zj0(bs:List BrG)(fst:Bool)(S:St)(st:List St×List Nat):∀m,m<=(hdsG bs).length->(zb6 bs fst S st m).1.length<=st.1.length+m
 |0,_=>zuz _
 |m+1,h=>by
  rw[zes bs fst S st (by omega)];have:=zj0 bs fst S st m (by omega);have:=(zpT (bs:=bs) (fst:=fst) (S:=S) (st:=zb6 bs fst S st m) (c:=(hdsG bs).getD m 0)).2;omega
theorem zfe(bs:List BrG)(k:Nat):runG bs (k+1)=zb6 bs (k==0) ((runG bs k).1.getD k zaZ) (runG bs k) (hdsG bs).length:=rfl
theorem zly(bs:List BrG)(k:Nat):(runG bs k).1.length<=(runG bs (k+1)).1.length:=by rw[zfe];exact zmr _ _ _ _ _
theorem zpv(bs:List BrG):∀k,0<(runG bs k).1.length
 |0=>by simp[runG]
 |k+1=>zuB (zpv bs k) (zly bs k)
structure EndG(bs:List BrG)(most K:Nat):Prop where
 len:(runG bs K).1.length=K
 go:∀k,k<K->k<(runG bs k).1.length/\(runG bs (k+1)).1.length<=most
structure RefG(bs:List BrG)(most k0:Nat):Prop where
 go:∀k,k<k0->k<(runG bs k).1.length/\(runG bs (k+1)).1.length<=most
 lt:k0<(runG bs k0).1.length
 big:most<(runG bs (k0+1)).1.length
theorem zrj(bs:List BrG)(most:Nat):(∃K,EndG bs most K)\/∃k0,RefG bs most k0:=by
 have step:∀n,(∃K,EndG bs most K)\/(∃k0,RefG bs most k0)\/∀k,k<n->k<(runG bs k).1.length/\(runG bs (k+1)).1.length<=most:=by
  intro n
  induction n with
  |zero=>exact .inr (.inr fun k h=>absurd h (by omega))
  |succ n ih=>
   rcases ih with h|h|h
   ·exact .inl h
   ·exact .inr (.inl h)
   ·have h0:n<=(runG bs n).1.length:=by
     cases n with
     |zero=>omega
     |succ n=>
      have:=(h n (by omega)).1;have:=zly bs n;omega
    rcases zuC n (runG bs n).1.length with a|a
    ·rcases zuC most (runG bs (n+1)).1.length with b|b
     ·exact .inr (.inl ⟨n,h,a,b⟩)
     ·refine .inr (.inr fun k hk=>?_);rcases zuC k n with c|c
      ·exact h k c
      ·obtain rfl:k=n:=by omega
       exact⟨a,b⟩
    ·exact .inl ⟨n,by omega,h⟩
 rcases step (most+2) with h|h|h
 ·exact .inl h
 ·exact .inr h
 ·have h1:=h (most+1) (by omega);have h2:=h most (by omega);omega
open Classical in
theorem zrI(L:List St)(S:St)(h:0<L.length):1<=nxtI L S/\nxtI L S<=L.length:=by
 unfold nxtI;have:=ztN (p:=fun T=>decide (T=S)) (xs:=L.tail);rw[List.length_tail] at this;exact⟨by omega,by omega⟩
structure RunI(st:List St×List Nat)(n:Nat):Prop where
 pos:0<st.1.length
 nl:st.2.length=n
 lt:∀x∈st.2,x<st.1.length
theorem RunI.upd{bs:List BrG}{S:St}{st:List St×List Nat}(h:RunI st n)(c:Nat):RunI (updG bs fst S st c) (n+1):=by
 have h1:=(zpT (bs:=bs) (fst:=fst) (S:=S) (st:=st) (c:=c)).1;refine⟨zuB h.pos h1,?_,fun x hx=>?_⟩
 ·show (st.2++[_]).length=_;rw[zt1,h.nl];rfl
 ·have hx:x∈st.2++[nxtI st.1 (stpG bs fst S c)]:=hx;rw[zuc,zui] at hx;rcases hx with hx|rfl
  ·exact zuB (h.lt x hx) h1
  ·have hl:=(zrI st.1 (stpG bs fst S c) h.pos).2;have e:(updG bs fst S st c).1=if nxtI st.1 (stpG bs fst S c)<st.1.length then st.1 else st.1++[stpG bs fst S c]:=rfl
   rw[e];split
   ·assumption
   ·rw[zt1,zt7];omega
theorem RunI.part{bs:List BrG}{S:St}{st:List St×List Nat}(h:RunI st n):∀m,m<=(hdsG bs).length->RunI (zb6 bs fst S st m) (n+m)
 |0,_=>h
 |m+1,hm=>by
  rw[zes bs fst S st (by omega)];exact(RunI.part h m (by omega)).upd _
theorem zfE(bs:List BrG):∀k,RunI (runG bs k) (k*(hdsG bs).length)
 |0=>⟨by simp[runG],by simp[runG],fun x h=>by simp[runG] at h⟩
 |k+1=>by
  rw[zfe,zuJ];exact(zfE bs k).part _ (zuz _)
noncomputable def dfaG (bs:List BrG) (K:Nat):DfaD where
 classes:=(List.range 256).map fun c=>(clsG bs c:Int)
 width:=(hdsG bs).length
 next:=(runG bs K).2.map fun(x:Nat)=>(x:Int)
 tag:=(List.range K).map fun k=>ansG bs (k==0) ((runG bs K).1.getD k zaZ) false
 fin:=(List.range K).map fun k=>ansG bs (k==0) ((runG bs K).1.getD k zaZ) true
end
section
variable {k N c:Nat}{m:Nat -> Bool}{S:St}{fst:Bool}
structure BxD where
 rule:Nat
 bol:Bool
 eol:Bool
 top:Nat
abbrev Xs:=List (BxD×GT)
def bsX(X:Xs):List BrG:=X.map fun x=>⟨x.1.rule,x.1.bol,x.1.eol,x.2.ga⟩
theorem zfw{X:Xs}{x:BxD×GT}(h:X[k]?=some x):(bsX X)[k]?=some ⟨x.1.rule,x.1.bol,x.1.eol,x.2.ga⟩:=by simp[bsX,h]
theorem zl0{X:Xs}(h:X.length<=k):(bsX X)[k]?=none:=by simp[bsX,h]
theorem zrY(X:Xs):(bsX X).length=X.length:=by simp[bsX]
structure zjb(X:Xs)(N:Nat):Prop where
 inj:∀(k k':Nat) (x x':BxD×GT) (i i':Nat),X[k]?=some x->X[k']?=some x'->i<x.2.ga.n->i'<x'.2.ga.n->x.2.at i=x'.2.at i'->k=k'/\i=i'
 lt:∀(k:Nat) (x:BxD×GT) (i:Nat),X[k]?=some x->i<x.2.ga.n->x.2.at i<N
def InM(X:Xs)(S:St)(p:Nat):Prop:=∃(k:Nat) (x:BxD×GT) (i:Nat),X[k]?=some x/\i<x.2.ga.n/\p=x.2.at i/\S k i=true
def IsM(X:Xs)(N:Nat)(m:Nat->Bool)(S:St):Prop:=∀p,p<N->(m p=true↔InM X S p)
def Supp(X:Xs)(S:St):Prop:=∀k i,S k i=true->∃x,X[k]?=some x/\i<x.2.ga.n
theorem zpI(X:Xs):Supp X zaZ:=fun k i h=>by simp[zaZ] at h
theorem zqJ(X:Xs)(N:Nat):IsM X N (fun _=>false) zaZ:=fun p _=>⟨fun h=>absurd h Bool.false_ne_true,fun⟨k,x,i,_,_,_,h⟩=>by simp[zaZ] at h⟩
theorem zpJ(X:Xs)(fst:Bool)(S:St)(c:Nat):Supp X (stpG (bsX X) fst S c):=fun k j h=>by
 unfold stpG at h;rcases zuC k X.length with hk|hk
 ·have hx:=ztT hk;rw[zfw hx] at h;simp only[ztt] at h;exact⟨_,hx,GA.stB _ _ _ h.1⟩
 ·rw[zl0 hk] at h;cases h
theorem IsM.at{X:Xs}(h:IsM X N m S)(hL:zjb X N){k i:Nat}{x:BxD×GT}(hx:X[k]?=some x)(hi:i<x.2.ga.n):m (x.2.at i)=true↔S k i=true:=by
 rw[h _ (hL.lt k x i hx hi)];constructor
 ·rintro ⟨k',x',i',h1,h2,h3,h4⟩;obtain⟨rfl,rfl⟩:=hL.inj k k' x x' i i' hx h1 hi h2 h3;exact h4
 ·intro h4;exact⟨k,x,i,hx,hi,rfl,h4⟩
theorem zrk{X:Xs}{m':Nat->Bool}{S':St}(h:IsM X N m S)(h':IsM X N m' S')(hL:zjb X N)(hS:Supp X S)(hS':Supp X S'):(∀p,p<N->m p=m' p)↔S=S':=by
 constructor
 ·intro he;funext k i;rw[ztu];constructor
  ·intro hs;obtain⟨x,hx,hi⟩:=hS k i hs;rw[<-h'.at hL hx hi,<-he _ (hL.lt k x i hx hi),h.at hL hx hi];exact hs
  ·intro hs;obtain⟨x,hx,hi⟩:=hS' k i hs;rw[<-h.at hL hx hi,he _ (hL.lt k x i hx hi),h'.at hL hx hi];exact hs
 ·rintro rfl p hp;rw[ztu,h p hp,h' p hp]
theorem zpG{X:Xs}{j:Nat}{x:BxD×GT}(hx:X[k]?=some x):stpG (bsX X) fst S c k j=true↔x.2.ga.st j c=true/\(((fst || !x.1.bol)=true/\x.2.ga.fst j=true)\/∃i,i<x.2.ga.n/\S k i=true/\x.2.ga.fol i j=true):=by
 unfold stpG;rw[zfw hx];simp only[ztt,ztw,List.any_eq_true,zuh]
def outK(X:Xs)(fst:Bool)(m:Nat->Bool)(c:Nat):Nat->Nat->Bool
 |0,_=>false
 |K+1,p=>outK X fst m c K p || match X[K]? with
  |none=>false
  |some x=>shB m c x.2 (fst || !x.1.bol) p
theorem zo0{X:Xs}{p:Nat}:∀K,outK X fst m c K p=true↔∃(k:Nat) (x:BxD×GT),k<K/\X[k]?=some x/\shB m c x.2 (fst || !x.1.bol) p=true
 |0=>⟨fun h=>absurd h (by simp[outK]),fun⟨k,_,h,_⟩=>absurd h (by omega)⟩
 |K+1=>by
  show (outK X fst m c K p || match X[K]? with|none=>false|some x=>shB m c x.2 (fst || !x.1.bol) p)=true↔_;rw[ztw,zo0 K];constructor
  ·rintro (⟨k,x,h1,h2,h3⟩|h)
   ·exact⟨k,x,by omega,h2,h3⟩
   ·cases hx:X[K]? with
    |none=>rw[hx] at h;cases h
    |some x=>rw[hx] at h;exact⟨K,x,by omega,hx,h⟩
  ·rintro ⟨k,x,h1,h2,h3⟩;rcases zuC k K with h|h
   ·exact .inl ⟨k,x,h,h2,h3⟩
   ·obtain rfl:k=K:=by omega
    right;rw[h2];exact h3
theorem ztb{X:Xs}(h:IsM X N m S)(hL:zjb X N)(fst:Bool)(c:Nat):IsM X N (outK X fst m c X.length) (stpG (bsX X) fst S c):=by
 intro p hp;rw[zo0];constructor
 ·rintro ⟨k,x,hk,hx,hs⟩;rw[zhb] at hs;obtain⟨j,h1,h2,h3⟩:=hs;refine⟨k,x,j,hx,x.2.ga.stB j c h1,h2,(zpG hx).2 ⟨h1,h3.imp id ?_⟩⟩;rintro ⟨i,h4,h5⟩;have hi:=(x.2.ga.folB i j h5).1;exact⟨i,hi,(h.at hL hx hi).1 h4,h5⟩
 ·rintro ⟨k,x,j,hx,hj,rfl,hs⟩;rw[zpG hx] at hs;refine⟨k,x,(ztV.1 hx).1,hx,?_⟩;rw[zhb];refine⟨j,hs.1,rfl,hs.2.imp id ?_⟩;rintro ⟨i,hi,h4,h5⟩;exact⟨i,(h.at hL hx hi).2 h4,h5⟩
theorem zs5{X:Xs}(h:IsM X N m S)(hL:zjb X N)(fst:Bool){k:Nat}{x:BxD×GT}(hx:X[k]?=some x):hitG ⟨x.1.rule,x.1.bol,x.1.eol,x.2.ga⟩ k fst S=(finB m x.2 || ((fst || !x.1.bol)&&x.2.ga.emp)):=by
 unfold hitG
 congr 1
 rw[ztu,zdw];simp only[List.any_eq_true,zuh,ztt];constructor
 ·rintro ⟨i,hi,h1,h2⟩;exact⟨i,h2,(h.at hL hx hi).2 h1⟩
 ·rintro ⟨i,h1,h2⟩;have hi:=x.2.ga.lstB i h1;exact⟨i,hi,(h.at hL hx hi).1 h2,h1⟩
theorem zn0{X:Xs}{we:Bool}{x:BxD×GT}(hx:X[k]?=some x):ansN (bsX X) fst S we (k+1)=if (x.1.eol && !we)=true then ansN (bsX X) fst S we k else if hitG ⟨x.1.rule,x.1.bol,x.1.eol,x.2.ga⟩ k fst S=true/\(ansN (bsX X) fst S we k<0\/(x.1.rule:Int)<ansN (bsX X) fst S we k) then x.1.rule else ansN (bsX X) fst S we k:=by
 show (match (bsX X)[k]? with
  |none=>ansN (bsX X) fst S we k
  |some b=>if (b.eol && !we)=true then ansN (bsX X) fst S we k else if hitG b k fst S=true/\(ansN (bsX X) fst S we k<0\/(b.rule:Int)<ansN (bsX X) fst S we k) then (b.rule:Int) else ansN (bsX X) fst S we k)=_
 rw[zfw hx]
end
variable {W W' w0 w:World}{v nv bv:Value}{X:Xs}{Ns:List NdX}{go:Nat}
open Go.RowKit
attribute [local go_sem ↓] Go.wp_at_zero Go.wp_at_succ
def b4(b:BxD):List Value:=[.int .i64 b.rule,.bool b.bol,.bool b.eol,.int .i64 b.top]
structure XbAt(W:World)(v:Value)(X:Xs):Prop where
 len:X.length<=8589934592
 at_:∃ao cap,v=.slice ao X.length cap/\(0<X.length->∃g,ao=some ⟨g,0,none⟩/\g<W.heap.size/\∀i x,X[i]?=some x->∀j u,(b4 x.1)[j]?=some u->W.cell? ⟨g,i*4+j,none⟩=some u)
theorem XbAt.below(h:XbAt W v X)(hb:Below W.heap.size W W'):XbAt W' v X:=by
 obtain⟨hl,ao,cap,rfl,h⟩:=h;refine⟨hl,ao,cap,rfl,fun h0=>?_⟩;obtain⟨g,rfl,hg,hc⟩:=h h0;exact⟨g,rfl,zuB hg hb.size,fun i x hx j u hu=>by rw[World.cell?_of_block (w:=W) (hb.block g hg)];exact hc i x hx j u hu⟩
theorem XbAt.row(h:XbAt W v X){k:Nat}{x:BxD×GT}(hx:X[k]?=some x):∃g cap,v=.slice (some ⟨g,0,none⟩) X.length cap/\g<W.heap.size/\
  W.cell? ⟨g,k*4,none⟩=some (.int .i64 x.1.rule)/\W.cell? ⟨g,k*4+1,none⟩=some (.bool x.1.bol)/\W.cell? ⟨g,k*4+2,none⟩=some (.bool x.1.eol)/\W.cell? ⟨g,k*4+3,none⟩=some (.int .i64 x.1.top):=by
 obtain⟨hl,ao,cap,rfl,h⟩:=h;have hn:=(ztV.1 hx).1;obtain⟨g,rfl,hg,hc⟩:=h (by omega);have:=hc k x hx;exact⟨g,cap,rfl,hg,this 0 _ rfl,this 1 _ rfl,this 2 _ rfl,this 3 _ rfl⟩
def AllN(Ns:List NdX)(X:Xs):Prop:=∀(i:Nat) (x:NdX),Ns[i]?=some x->(x.k=115/\∃(k:Nat) (y:BxD×GT) (j:Nat),X[k]?=some y/\j<y.2.ga.n/\y.2.at j=i)\/(x.k≠115/\x.k<256/\x.sv=.slice none 0 0)
structure SpX(w0 W:World)(nv bv:Value)(Ns:List NdX)(X:Xs):Prop where
 nx:NxAt W nv Ns
 bx:XbAt W bv X
 tr:∀(k:Nat) (x:BxD×GT),X[k]?=some x->AtN w0 Ns x.2 x.1.top
 lab:zjb X Ns.length
 bl:Below w0.heap.size w0 W
 al:AllN Ns X
theorem SpX.below(h:SpX w0 W nv bv Ns X)(hb:Below W.heap.size W W'):SpX w0 W' nv bv Ns X:=
 ⟨h.nx.below hb,h.bx.below hb,h.tr,h.lab,zaa h.bl h.bl.size hb,h.al⟩
theorem AtN.lt{T:GT}{n:Nat}(h:AtN w0 Ns T n):n<Ns.length:=by
 cases T with
 |s p f=>obtain⟨_,_,_,h,_⟩:=h;exact(ztV.1 h).1
 |q a b=>obtain⟨_,_,h,_⟩:=h;exact(ztV.1 h).1
 |o a b=>obtain⟨_,_,h,_⟩:=h;exact(ztV.1 h).1
 |st a=>obtain⟨_,h,_⟩:=h;exact(ztV.1 h).1
 |e=>have h:Ns[n]?=_:=h;exact(ztV.1 h).1
theorem NxAt.blk(h:NxAt W v Ns)(h0:0<Ns.length):∀g n cap,v=.slice (some ⟨g,0,none⟩) n cap->g<W.heap.size:=by
 obtain⟨hl,ao,cap,rfl,h⟩:=h;obtain⟨g,rfl,hg,-⟩:=h h0;intro g' n c e;cases e;exact hg
theorem XbAt.blk(h:XbAt W v X)(h0:0<X.length):∀g n cap,v=.slice (some ⟨g,0,none⟩) n cap->g<W.heap.size:=by
 obtain⟨hl,ao,cap,rfl,h⟩:=h;obtain⟨g,rfl,hg,-⟩:=h h0;intro g' n c e;cases e;exact hg
theorem XbAt.touch(h:XbAt w v X)(t:zaM (·= go) w W)(hg:0<X.length->∀g n cap,v=.slice (some ⟨g,0,none⟩) n cap->g≠go):XbAt W v X:=by
 obtain⟨hl,ao,cap,rfl,h⟩:=h;refine⟨hl,ao,cap,rfl,fun h0=>?_⟩;obtain⟨g,rfl,hgl,hc⟩:=h h0;exact⟨g,rfl,zuB hgl t.size,fun i x hx j u hu=>by rw[World.cell?_of_block (w:=w) (t.same g hgl (hg h0 g _ _ rfl))];exact hc i x hx j u hu⟩
theorem zgP(N:Nat):(List.replicate N (Value.bool false)).toArray=bRow N (fun _=>false):=by
 unfold bRow
 congr 1
 apply ztL
 intro j;simp[List.getElem?_replicate]
 by_cases h:j<N<;>simp[h]
structure AfI(w0 w W:World)(nv bv:Value)(Ns:List NdX)(X:Xs)(gm go:Nat)(m O:Nat->Bool):Prop where
 box:W.heap[w.heap.size]?=some (.cells #[nv,bv] 45 (0,0))
 sp:SpX w0 W nv bv Ns X
 ma:Mks W gm Ns.length m
 ou:Mks W go Ns.length O
 bl:Below w.heap.size w W
theorem AfI.call{gm:Nat}{m O:Nat->Bool}(h:AfI w0 w W nv bv Ns X gm go m O)(hb:Below W.heap.size W W'):AfI w0 w W' nv bv Ns X gm go m O:=
 ⟨(hb.block _ (zae h.box)).trans h.box,h.sp.below hb,h.ma.below hb,h.ou.below hb,zaa h.bl h.bl.size hb⟩
theorem zm7(w0 w:World)(nv bv:Value)(Ns:List NdX)(X:Xs)(fst:Bool)(gm cm c:Nat)(m:Nat->Bool)(hS:SpX w0 w nv bv Ns X)(hM:Mks w gm Ns.length m)(hc:c<256):
  Calls Tryz.prog 19 #[.agg #[nv,bv],.bool fst,.slice (some ⟨gm,0,none⟩) Ns.length cm,.int .u8 c] w fun e W=>∃go,e=.returned (.slice (some ⟨go,0,none⟩) Ns.length Ns.length)/\w.heap.size<=go/\Mks W go Ns.length (outK X fst m c X.length)/\Below w.heap.size w W:=by
 obtain⟨i0,hi,hz0,hz1,hz2⟩:=info_parts Tryz.infoBoolE;have hln:=hS.nx.len;have hlx:=hS.bx.len;have hgm:gm<w.heap.size:=zae hM;obtain⟨bo,bcap,rfl,-⟩:=hS.bx.at_;obtain⟨W0,hW0⟩:∃W0,w.alloc (.cells #[nv,.slice bo X.length bcap] 45)=W0:=⟨_,rfl⟩;have b0:Below w.heap.size w W0:=by rw[<-hW0];exact(Below.refl _ _).alloc (zuz _) _
 have x0:W0.heap[w.heap.size]?=some (.cells #[nv,.slice bo X.length bcap] 45 (0,0)):=by rw[<-hW0];exact zuR _ _
 have hI0:∀W1,Below W0.heap.size W0 W1->W1.heap[W0.heap.size]?=some (.cells (bRow Ns.length (fun _=>false)) 4 (0,0))->AfI w0 w W1 nv (.slice bo X.length bcap) Ns X gm W0.heap.size m (outK X fst m c 0):=fun W1 h1 h2=>
  have hb:=zaa b0 b0.size h1
  ⟨(h1.block _ (zae x0)).trans x0,hS.below hb,hM.below hb,h2,hb⟩
 have HI0:=hdn hI0;have HW0:=hdn hW0;have HC:=hdn hc;have hgo:w.heap.size<W0.heap.size:=zae x0;have hnb:=hS.nx.blk;have HNB:=hdn hnb;have hbb:=hS.bx.blk;have HBB:=hdn hbb;have hw0:=hS.bl.size;clear hS hM x0 hW0 hc hI0 hnb hbb
 go_enter Tryz.func19,Tryz.ntmps19
 go_upto_region 1 with fail
 rw[HW0.out];clear HW0
 go_wp2_with (refine wpList_make_full _ rfl _ _ 49 rfl w.heap.size 4 i0 _ 1 Tryz.underlying49 hi hz0 hz1 _ _ _ _ Ns.length rfl rfl rfl rfl (by rw[hz2];omega) (by unfold maxLen;omega) b0.size ?_;intro W1 hown hgrow;rw[zhY] at hown;have hrw:=ze9 hown;rw[zgP] at hrw;have hI1:=HI0.out W1 ((Below.refl _ _).grown hgrow (zuz _) (by intro k h;cases h)) hrw;clear hown hgrow hrw HI0;obtain⟨p0,p1⟩:=zal hI1.box)
 generalize hgoe:W0.heap.size=go at *;clear hgoe;clear b0
 go_loopw [18] (fun i wr=>∃k:Nat,k<=X.length/\i=.int .i64 k/\AfI w0 w wr nv (.slice bo X.length bcap) Ns X gm go m (outK X fst m c k)) (fun i _=>X.length-(intOf i).toNat)
 case atStart=>exact⟨0,zuL _,rfl,hI1⟩
 case round=>
  obtain⟨k,hk,rfl,hI⟩:=hrel;clear hI1 p0 p1
  by_cases hlt:k<X.length
  ·have hx:=ztT hlt;obtain⟨x,hxe⟩:∃x,X[k]=x:=⟨_,rfl⟩;rw[hxe] at hx;clear hxe;obtain⟨gb,cb,hbe,hgb,c0,c1,c2,c3⟩:=hI.sp.bx.row hx;cases hbe;obtain⟨p0,p1⟩:=zal hI.box;have hAt:=hI.sp.tr k x hx;have hi0:(0:Int)<=(k:Int):=by omega
   have hi1:(k:Int)<(X.length:Int):=by omega
   obtain⟨W2,hW2⟩:∃W2,wr.alloc (.cells #[.int .i64 x.1.rule,.bool x.1.bol,.bool x.1.eol,.int .i64 x.1.top] 82)=W2:=⟨_,rfl⟩;have b2:Below wr.heap.size wr W2:=by rw[<-hW2];exact(Below.refl _ _).alloc (zuz _) _
   have x2:W2.heap[wr.heap.size]?=some (.cells #[.int .i64 x.1.rule,.bool x.1.bol,.bool x.1.eol,.int .i64 x.1.top] 82 (0,0)):=by rw[<-hW2];exact zuR _ _
   have hI2:=hI.call b2;have hA:ShA w0 W2 nv Ns gm go Ns.length m (outK X fst m c k):=⟨hI2.sp.nx,hI2.ma,hI2.ou,by omega,fun g n cap e h=>by
    have:=HNB.out (by have:=hAt.lt;omega) g n cap e;omega,zuz _,hI2.sp.bl,by omega⟩
   have hs:=zc5 w0 x.2 Ns x.1.top W2 nv (.slice (some ⟨gb,0,none⟩) X.length bcap) gm cm go Ns.length Ns.length c m (outK X fst m c k) (fst || !x.1.bol) hA hAt HC.out;have ho:∀p,outK X fst m c (k+1) p=(outK X fst m c k p || shB m c x.2 (fst || !x.1.bol) p):=fun p=>by
    show (outK X fst m c k p || match X[k]? with|none=>false|some x=>shB m c x.2 (fst || !x.1.bol) p)=_;rw[hx]
   have hj:∀W3,Mks W3 go Ns.length (fun p=>outK X fst m c k p || shB m c x.2 (fst || !x.1.bol) p)->zaM (·= go) W2 W3->AfI w0 w W3 nv (.slice (some ⟨gb,0,none⟩) X.length bcap) Ns X gm go m (outK X fst m c (k+1)):=fun W3 h1 h2=>by
    rw[show outK X fst m c (k+1)=fun p=>outK X fst m c k p || shB m c x.2 (fst || !x.1.bol) p from funext ho];have hA3:=hA.touch h2 h1;have hb:Below w.heap.size w W3:=⟨h2.os.trans hI2.bl.os,h2.tape.trans hI2.bl.tape,h2.output.trans hI2.bl.output,zuA hI2.bl.size h2.size,fun j hj=>(h2.same j (zuB hj hI2.bl.size) (by omega)).trans (hI2.bl.block j hj)⟩;exact⟨(h2.same _ (zae hI2.box) (by omega)).trans hI2.box,⟨hA3.nx,hI2.sp.bx.touch h2 (fun h0 g n cap e h=>by have:=HBB.out h0 g n cap e;omega),hI2.sp.tr,hI2.sp.lab,hA3.bl,hI2.sp.al⟩,hA3.ma,h1,hb⟩
   have HJ:=hdn hj;have HW2:=hdn hW2;obtain⟨q0,q1,q2,q3⟩:=zam x2;obtain⟨r0,r1⟩:=zal hI2.box;generalize hrl:x.1.rule=rl at *;generalize hbl:x.1.bol=bl at *;generalize hel:x.1.eol=el at *;generalize htp:x.1.top=tp at *;clear hrl hbl hel htp hI hI2 hA ho hj hW2 hx hAt x2;cases fst
   ·simp only[Bool.false_or] at hs HJ
    go_upto_region 5 with fail
    rw[HW2.out];clear HW2 c0 c1 c2 c3 p0 p1
    go_wp2_with fail
    refine hs.mono ?_;rintro e W3 ⟨rfl,o3,t3⟩;clear hs;go_wp2
    go_roundw
    case rel=>exact⟨k+1,by omega,by go_num,HJ.out W3 o3 t3⟩
    case measure=>simp[intOf];omega
   ·simp only[ztz] at hs HJ
    go_upto_region 5 with fail
    rw[HW2.out];clear HW2 c0 c1 c2 c3 p0 p1
    go_wp2_with fail
    refine hs.mono ?_;rintro e W3 ⟨rfl,o3,t3⟩;clear hs;go_wp2
    go_roundw
    case rel=>exact⟨k+1,by omega,by go_num,HJ.out W3 o3 t3⟩
    case measure=>simp[intOf];omega
  ·have hkk:k=X.length:=by omega
   have HI:=hdn hI;clear hI;go_wp2;refine zuN (v:=.slice (some ⟨go,0,none⟩) Ns.length Ns.length) (by simp[results,Tryz.results19,go_sem]) rfl ⟨go,rfl,by omega,?_,HI.out.bl⟩;have:=HI.out.ou;rw[hkk] at this;exact this
end Go.Proofs.YthddplbodacjgaaGreatDoor
