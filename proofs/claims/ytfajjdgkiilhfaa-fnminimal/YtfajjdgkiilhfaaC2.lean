import Derived.Test.YtfajjdgkiilhfaaC1
namespace Go.Proofs.Ytfajjdgkiilhfaa
open Proofs.Try
set_option maxHeartbeats 1000000
set_option maxRecDepth 100000
open Go.RowKit
attribute [local go_sem ↓] wp_at_zero wp_at_succ
section
variable {d:aE}
def Cq(d:aE)(c:Nat):Int:=d.aD.getD c 0
def zrS(d:aE)(k:Nat):Int:=d.next.getD k 0
def JI(d:aE)(s:Int)(c:Nat):Int:=zrS d (s*d.width+Cq d c).toNat
structure cL(d:aE):Prop where
 cl:d.aD.length=256
 w1:1<=d.width
 w2:d.width<=256
 n1:1<=(d.tag.length:Int)
 n2:(d.tag.length:Int)<=4000
 fl:d.fin.length=d.tag.length
 nl:(d.next.length:Int)=d.tag.length*d.width
 cs:fO 0 (d.width-1) d.aD=true
 ns:fO 0 (d.tag.length-1) d.next=true
 ts:fO (-1) 99 d.tag=true
 es:fO (-1) 99 d.fin=true
theorem Md(h:dX d=true):cL d:=by
 simp only[dX,fQ,pF,vz]at h;obtain⟨⟨⟨⟨⟨⟨⟨⟨a,b⟩,c⟩,e⟩,f⟩,g⟩,i⟩,j⟩,k⟩:=h;exact⟨a,b.1,b.2,c.1,c.2,e,f,g,i,j,k⟩
theorem cL.idx(h:cL d){s:Int}{c:Nat}(h0:0<=s)(h1:s<d.tag.length)(hc:c<256):
  0<=Cq d c/\Cq d c<d.width/\0<=s*d.width/\s*d.width<=1024000/\s*d.width+Cq d c<d.next.length:=by
 have k:=xf h.cs (k:=c) (by have:=h.cl;omega);have a:=h.w1;have b:=h.w2;have n:=h.nl;have n2:=h.n2;have m0:0<=s*d.width:=Bd h0 (by omega);have m1:s*d.width<=4000*256:=xH (by omega) b (by omega) (by omega);have m2:(s+1)*d.width<=d.tag.length*d.width:=Int.mul_le_mul_of_nonneg_right (by omega) (by omega);rw[Int.add_mul]at m2;unfold Cq;exact⟨k.1,by omega,m0,by omega,by omega⟩
end
section
variable {lo:Nat}
theorem dk.cells{w:World}{cv nv tv ev:Value}{d:aE}(hs:dk lo w cv nv tv ev d)(hf:cL d){s:Int}{c:Nat}(h0:0<=s)(h1:s<d.tag.length)(hc:c<256):
  ∃(cb co cc nb no nc:Nat),cv=.slice (some ⟨cb,co,none⟩) d.aD.length cc/\nv=.slice (some ⟨nb,no,none⟩) d.next.length nc/\d.next.length<=9223372036854775807/\cb<w.heap.size/\nb<w.heap.size/\
   w.cell? ⟨cb,co+c,none⟩=some (.int .i64 (Cq d c))/\w.cell? ⟨nb,no+(s*d.width+Cq d c).toNat,none⟩=some (.int .i64 (JI d s c)):=by
 obtain⟨⟨ca,cc,rfl,cm,cx⟩,⟨na,nc,rfl,nm,nx⟩,-,-⟩:=hs;obtain⟨a,b,e,f,g⟩:=hf.idx h0 h1 hc;obtain⟨cb,co,rfl,_,cl,cq⟩:=cx (by rw[hf.cl];omega);obtain⟨nb,no,rfl,_,nl,nq⟩:=nx (by omega);exact⟨cb,co,cc,nb,no,nc,rfl,rfl,nm,cl,nl,cq c (by rw[hf.cl];omega),nq _ (by omega)⟩
theorem zsy(cv nv tv ev:Value)(d:aE)(s:Int)(c:Nat)(w:World)(hs:dk lo w cv nv tv ev d)(hf:cL d)(h0:0<=s)(h1:s<d.tag.length)(hc:c<256):
  Calls prog 61 #[.agg #[cv,.int .i64 d.width,nv,tv,ev],.int .i64 s,.int .i64 c] w λe w'=>e=.returned (.int .i64 (JI d s c))/\Below w.heap.size w w':=by
 obtain⟨cb,co,cc,nb,no,nc,rfl,rfl,nm,cl,nl,c0,c1⟩:=hs.cells hf h0 h1 hc;obtain⟨a,b,e,f,g⟩:=hf.idx h0 h1 hc;have bn:=hf.cl;rw[bn];have w1:=hf.w1;have w2:=hf.w2;have fc:=hf.n2;clear hs;generalize Cq d c=x at *;generalize JI d s c=y at *;have hcc:(c:Int)<256:=by omega
 have gz:0<=s*d.width+x:=by omega
 have pZ:s*d.width+x<=2000000:=by omega
 go_enter func61,ntmps61
 go_wp2
 go_quiet (fail)
 go_wp2;go_ret;exact⟨rfl,below_drewN (aC) _⟩
theorem zl8(cv nv tv ev:Value)(d:aE)(s:Int)(c:Nat)(w:World)(hs:dk lo w cv nv tv ev d)(hf:cL d)(h0:0<=s)(h1:s<d.tag.length)(hc:c<256):
  Calls prog 25 #[.agg #[cv,.int .i64 d.width,nv,tv,ev],.int .i64 s,.int .i64 c] w λe w'=>e=.returned (.int .i64 (JI d s c))/\Below w.heap.size w w':=by
 obtain⟨cb,co,cc,nb,no,nc,rfl,rfl,nm,cl,nl,c0,c1⟩:=hs.cells hf h0 h1 hc;obtain⟨a,b,e,f,g⟩:=hf.idx h0 h1 hc;have bn:=hf.cl;rw[bn];have w1:=hf.w1;have w2:=hf.w2;have fc:=hf.n2;clear hs;generalize Cq d c=x at *;generalize JI d s c=y at *;have hcc:(c:Int)<256:=by omega
 have gz:0<=s*d.width+x:=by omega
 have pZ:s*d.width+x<=2000000:=by omega
 go_enter func25,ntmps25
 go_wp2
 go_quiet (fail)
 go_wp2;go_ret;exact⟨rfl,below_drewN (aC) _⟩
end
section
variable {st:Nat -> Nat -> Nat}{s t x y:Nat}{os l m:List Nat}
def runN(st:Nat->Nat->Nat)(s:Nat)(l:List Nat):Nat:=l.foldl st s
def cD(st:Nat->Nat->Nat)(an:Nat->Int×Int)(s t:Nat):Prop:=∀l:List Nat,(∀c∈l,c<256)->an (runN st s l)=an (runN st t l)
noncomputable instance zBD (st:Nat->Nat->Nat) (an:Nat->Int×Int) (s t:Nat):Decidable (cD st an s t):=Classical.propDecidable _
theorem cD.refl(st:Nat->Nat->Nat)(an:Nat->Int×Int)(s:Nat):cD st an s s:=λ_ _=>rfl
theorem cD.symm{an:Nat->Int×Int}(h:cD st an s t):cD st an t s:=λl hl=>(h l hl).symm
theorem cD.trans{an:Nat->Int×Int}{u:Nat}(h:cD st an s t)(k:cD st an t u):cD st an s u:=λl hl=>(h l hl).trans (k l hl)
theorem cD.an{an:Nat->Int×Int}(h:cD st an s t):an s=an t:=h [] (by simp)
theorem cD.step{an:Nat->Int×Int}(h:cD st an s t){c:Nat}(hc:c<256):cD st an (st s c) (st t c):=λl hl=>h (c::l) (by
 intro x hx;rcases tn.1 hx with rfl|hx
 ·exact hc
 ·exact hl x hx)
theorem ziT{an:Nat->Int×Int}(R:Nat->Nat->Prop)(h1:∀s t,R s t->an s=an t)(h2:∀s t c,R s t->c<256->R (st s c) (st t c)){s t:Nat}(h:R s t):cD st an s t:=by
 intro l
 induction l generalizing s t with
 |nil=>intro _;exact h1 s t h
 |cons c l ih=>intro hl;exact ih (h2 s t c h (hl c (by simp))) (λx hx=>hl x (by simp[hx]))
noncomputable def dZ (st:Nat->Nat->Nat) (an:Nat->Int×Int) (os:List Nat) (x:Nat):Nat:=
 os.findIdx λo=>decide (cD st an o x)
theorem Uq(st:Nat->Nat->Nat)(an:Nat->Int×Int)(os:List Nat)(x:Nat):dZ st an os x<=os.length:=JR
theorem Cl{an:Nat->Int×Int}:dZ st an os x<os.length↔∃o∈os,cD st an o x:=by
 unfold dZ;rw[List.findIdx_lt_length];constructor
 ·rintro ⟨o,h1,h2⟩;exact⟨o,h1,of_decide_eq_true h2⟩
 ·rintro ⟨o,h1,h2⟩;exact⟨o,h1,decide_eq_true h2⟩
theorem zlF{an:Nat->Int×Int}(h:dZ st an os x<os.length):cD st an (os[dZ st an os x]'h) x:=
 of_decide_eq_true (List.findIdx_getElem (p:=λo=>decide (cD st an o x)) (w:=h))
theorem zoS{an:Nat->Int×Int}(h:dZ st an os x<os.length):dZ st an (os++[y]) x=dZ st an os x:=by
 unfold dZ at h ⊢;rw[List.findIdx_append,ae h]
theorem Uh{an:Nat->Int×Int}(h:¬dZ st an os x<os.length):dZ st an (os++[y]) x=if cD st an y x then os.length else os.length+1:=by
 have hl:=Uq st an os x;unfold dZ at h hl ⊢;rw[List.findIdx_append,ab h,List.findIdx_singleton]
 by_cases e:cD st an y x
 ·rw[ae e,ae (decide_eq_true e)];omega
 ·rw[ab e,ab (by simpa using e)];omega
inductive sW (st:Nat->Nat->Nat) (an:Nat->Int×Int):List Nat->List Nat->Prop
 |nil:sW st an [] []
 |cons {s t:Nat} {l m:List Nat}:cD st an s t->sW st an l m->sW st an (s::l) (t::m)
theorem sW.length{an:Nat->Int×Int}(h:sW st an l m):l.length=m.length:=by
 induction h with
 |nil=>rfl
 |cons _ _ ih=>simp[ih]
theorem sW.snoc{an:Nat->Int×Int}(h:sW st an l m){s t:Nat}(hs:cD st an s t):sW st an (l++[s]) (m++[t]):=by
 induction h with
 |nil=>exact .cons hs .nil
 |cons k _ ih=>exact .cons k ih
theorem sW.at{an:Nat->Int×Int}(h:sW st an l m):∀k,k<l.length->cD st an (l.getD k 0) (m.getD k 0):=by
 induction h with
 |nil=>intro k hk;exact absurd hk (dP _)
 |cons e _ ih=>
  intro k hk;cases k with
  |zero=>exact e
  |succ k=>exact ih k (by simpa using hk)
theorem sW.idx{an:Nat->Int×Int}(h:sW st an l m){x y:Nat}(yQ:cD st an x y):dZ st an l x=dZ st an m y:=by
 induction h with
 |nil=>rfl
 | @cons s t l m e _ ih=>
  unfold dZ at ih ⊢;rw[Gy,Gy,ih];have:decide (cD st an s x)=decide (cD st an t y):=by
   rw[decide_eq_decide];exact⟨λk=>e.symm.trans (k.trans yQ),λk=>e.trans (k.trans yQ.symm)⟩
  rw[this]
noncomputable def nD (st:Nat->Nat->Nat) (an:Nat->Int×Int) (os:List Nat) (x:Nat):List Nat:=if dZ st an os x<os.length then os else os++[x]
noncomputable def aF (st:Nat->Nat->Nat) (an:Nat->Int×Int):Nat->Nat->List Nat
 |0,0=>[0]
 |k+1,0=>aF st an k 256
 |k,c+1=>nD st an (aF st an k c) (st ((aF st an k c).getD k 0) c)
theorem yZ(st:Nat->Nat->Nat)(an:Nat->Int×Int)(k c:Nat):aF st an k (c+1)=nD st an (aF st an k c) (st ((aF st an k c).getD k 0) c):=by rw[aF]
theorem xp(st:Nat->Nat->Nat)(an:Nat->Int×Int)(k:Nat):aF st an (k+1) 0=aF st an k 256:=by rw[aF]
theorem xq(st:Nat->Nat->Nat)(an:Nat->Int×Int):aF st an 0 0=[0]:=by rw[aF]
theorem zqf(st:Nat->Nat->Nat)(an:Nat->Int×Int)(os:List Nat)(x:Nat):∃t,nD st an os x=os++t:=by
 unfold nD;split
 ·exact⟨[],by simp⟩
 ·exact⟨[x],rfl⟩
theorem zmc(st:Nat->Nat->Nat)(an:Nat->Int×Int)(os:List Nat)(x:Nat):dZ st an (nD st an os x) x=dZ st an os x/\dZ st an (nD st an os x) x<(nD st an os x).length:=by
 unfold nD;split
 ·rename_i h;exact⟨rfl,h⟩
 ·rename_i h
  have:=Uq st an os x;rw[Uh h,ae (cD.refl _ _ _)];exact⟨by omega,by simp⟩
theorem zqN{an:Nat->Int×Int}{t:List Nat}(h:dZ st an os x<os.length):dZ st an (os++t) x=dZ st an os x:=by
 unfold dZ at h ⊢;rw[List.findIdx_append,ae h]
theorem Jn(st:Nat->Nat->Nat)(an:Nat->Int×Int)(k:Nat):∀c d,c<=d->∃t,aF st an k d=aF st an k c++t
 |c,0,h=>⟨[],by rw[show c=0 by omega];simp⟩
 |c,d+1,h=>by
  by_cases e:c=d+1
  ·subst e;exact⟨[],by simp⟩
  ·obtain⟨t,ht⟩:=Jn st an k c d (by omega);obtain⟨t2,lR⟩:=zqf st an (aF st an k d) (st ((aF st an k d).getD k 0) d);exact⟨t++t2,by rw[yZ,lR,ht,jA]⟩
theorem Cj(st:Nat->Nat->Nat)(an:Nat->Int×Int):∀j k,j<=k->∃t,aF st an k 0=aF st an j 0++t
 |j,0,h=>⟨[],by rw[show j=0 by omega];simp⟩
 |j,k+1,h=>by
  by_cases e:j=k+1
  ·subst e;exact⟨[],by simp⟩
  ·obtain⟨t,ht⟩:=Cj st an j k (by omega);obtain⟨t2,lR⟩:=Jn st an k 0 256 (by omega);exact⟨t++t2,by rw[xp,lR,ht,jA]⟩
end
variable {st:Nat -> Nat -> Nat}{an:Nat -> Int×Int}{k K c:Nat}
noncomputable def Ct (st:Nat->Nat->Nat) (an:Nat->Int×Int) (k c:Nat):Nat:=dZ st an (aF st an k (c+1)) (st ((aF st an k c).getD k 0) c)
def qd(st:Nat->Nat->Nat)(an:Nat->Int×Int)(k:Nat):Prop:=∀j,j<k->j<(aF st an j 0).length
theorem qd.next(h:qd st an k)(hk:k<(aF st an k 0).length):qd st an (k+1):=λj hj=>by
 by_cases e:j=k
 ·subst e;exact hk
 ·exact h j (by omega)
theorem zoK{m:Nat}(h1:qd st an k)(e1:(aF st an k 0).length=k)(h2:qd st an m)(e2:(aF st an m 0).length=m):k=m:=by
 rcases Nat.lt_trichotomy k m with h|h|h
 ·have:=h2 k h;omega
 ·exact h
 ·have:=h1 m h;omega
theorem Qd(st:Nat->Nat->Nat)(an:Nat->Int×Int)(k:Nat){c d:Nat}(h:c<=d):(aF st an k c).length<=(aF st an k d).length:=by
 obtain⟨t,ht⟩:=Jn st an k c d h;rw[ht];simp
theorem vv{l t:List Nat}(h:k<l.length):(l++t).getD k 0=l.getD k 0:=by
 rw[bI,rU h,bI]
theorem zp7(st:Nat->Nat->Nat)(an:Nat->Int×Int){k c:Nat}(h:k<(aF st an k 0).length):(aF st an k c).getD k 0=(aF st an k 0).getD k 0:=by
 obtain⟨t,ht⟩:=Jn st an k 0 c (bH _);rw[ht,vv h]
theorem zmT(st:Nat->Nat->Nat)(an:Nat->Int×Int)(k c:Nat):Ct st an k c<(aF st an k (c+1)).length:=by
 unfold Ct;rw[yZ];exact(zmc st an _ _).2
theorem zeh(st:Nat->Nat->Nat)(an:Nat->Int×Int)(k c:Nat):Ct st an k c=dZ st an (aF st an k c) (st ((aF st an k c).getD k 0) c):=by
 unfold Ct;rw[yZ];exact(zmc st an _ _).1
theorem zhs(hG:qd st an K)(hk:k<K)(hc:c<256):Ct st an k c=dZ st an (aF st an K 0) (st ((aF st an K 0).getD k 0) c):=by
 have h0:=hG k hk;obtain⟨t,ht⟩:=Cj st an (k+1) K (by omega);obtain⟨t2,lR⟩:=Jn st an k (c+1) 256 (by omega);have e1:aF st an K 0=aF st an k (c+1)++(t2++t):=by rw[ht,xp,lR,jA]
 have hl:k<(aF st an k (c+1)).length:=fR h0 (Qd st an k (bH _));have e2:(aF st an K 0).getD k 0=(aF st an k c).getD k 0:=by rw[e1,vv hl,zp7 st an h0];exact(zp7 st an h0).symm
 rw[e2,e1];exact(zqN (zmT st an k c)).symm
theorem zkK(hk:k<K)(hc:c<256):Ct st an k c<(aF st an K 0).length:=by
 obtain⟨t,ht⟩:=Cj st an (k+1) K (by omega);obtain⟨t2,lR⟩:=Jn st an k (c+1) 256 (by omega);have:=zmT st an k c;rw[ht,xp,lR];simp only[a6];omega
def je(K:Nat)(R:Nat->Nat->Nat)(h c:Nat):Bool:=(List.range K).all λk=>R k h==R k c
theorem D7{R:Nat->Nat->Nat}{h:Nat}:je K R h c=true↔∀k,k<K->R k h=R k c:=by simp[je]
theorem znm(K:Nat)(R:Nat->Nat->Nat)(h:Nat):je K R h h=true:=D7.2 λ_ _=>rfl
def aM(K:Nat)(R:Nat->Nat->Nat):Nat->List Nat
 |0=>[]
 |c+1=>if (aM K R c).findIdx (λh=>je K R h c)<(aM K R c).length then aM K R c else aM K R c++[c]
def da(K:Nat)(R:Nat->Nat->Nat)(c:Nat):Nat:=(aM K R c).findIdx λh=>je K R h c
theorem sR(K:Nat)(R:Nat->Nat->Nat)(c:Nat):aM K R (c+1)=if da K R c<(aM K R c).length then aM K R c else aM K R c++[c]:=rfl
theorem zd(K:Nat)(R:Nat->Nat->Nat):∀c,∀h∈aM K R c,h<c
 |0,h,hh=>by simp[aM]at hh
 |c+1,h,hh=>by
  rw[sR]at hh;split at hh
  ·have:=zd K R c h hh;omega
  ·rcases gH.1 hh with hh|hh
   ·have:=zd K R c h hh;omega
   ·simp at hh;omega
theorem D9(K:Nat)(R:Nat->Nat->Nat):∀c,(aM K R c).length<=c
 |0=>by simp[aM]
 |c+1=>by
  have:=D9 K R c;rw[sR];split
  ·omega
  ·simp;omega
theorem Tx(K:Nat)(R:Nat->Nat->Nat):∀c i j,i<(aM K R c).length->j<(aM K R c).length->je K R ((aM K R c).getD i 0) ((aM K R c).getD j 0)=true->i=j
 |0,i,j,hi,_,_=>by simp[aM]at hi
 |c+1,i,j,hi,hj,h=>by
  rw[sR]at hi hj h
  by_cases hc:da K R c<(aM K R c).length
  ·rw[ae hc]at hi hj h;exact Tx K R c i j hi hj h
  ·rw[ab hc]at hi hj h;simp only[a6,iG,n4]at hi hj;have qz:∀i,i<(aM K R c).length->je K R ((aM K R c).getD i 0) c=false:=λi hi=>by
    have hle:(aM K R c).length<=da K R c:=by omega
    unfold da at hle;have:=List.not_of_lt_findIdx (p:=λh=>je K R h c) (i:=i) (by omega:i<(aM K R c).findIdx λh=>je K R h c);rw[bI,bE hi]
    simpa using this
   have lL:(aM K R c++[c]).getD (aM K R c).length 0=c:=by simp
   by_cases h1:i<(aM K R c).length<;>by_cases h2:j<(aM K R c).length
   ·rw[vv h1,vv h2]at h;exact Tx K R c i j h1 h2 h
   ·have ej:j=(aM K R c).length:=by omega
    rw[vv h1,ej,lL,qz i h1]at h;cases h
   ·have ei:i=(aM K R c).length:=by omega
    rw[vv h2,ei,lL]at h;have:=qz j h2;have h':je K R ((aM K R c).getD j 0) c=true:=D7.2 λk hk=>(D7.1 h k hk).symm
    rw[this]at h';cases h'
   ·omega
end Go.Proofs.Ytfajjdgkiilhfaa
