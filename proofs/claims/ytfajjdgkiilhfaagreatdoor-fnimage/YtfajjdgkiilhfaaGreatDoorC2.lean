import Derived.Test.YtfajjdgkiilhfaaGreatDoorC1
namespace Go.Proofs.YtfajjdgkiilhfaaGreatDoor
open Proofs.Tryz
open Option renaming some->za,none->zb
open Value renaming slice->zc,int->zd
open Go renaming World->ze,Value->zf,TypeId->zg
set_option maxHeartbeats 2000000
set_option maxRecDepth 100000
open Go.RowKit
attribute [local go_sem ↓] wp_at_zero wp_at_succ
section
variable {st:Nat -> Nat -> Nat}{an:Nat -> Int×Int}{k K c:Nat}
noncomputable def Fx (st:Nat->Nat->Nat) (an:Nat->Int×Int) (k c:Nat):Nat:=nM st an (eX st an k (c+1)) (st ((eX st an k c).getD k 0) c)
def vh(st:Nat->Nat->Nat)(an:Nat->Int×Int)(k:Nat):Prop:=∀j,j<k->j<(eX st an j 0).length
theorem vh.next(h:vh st an k)(hk:k<(eX st an k 0).length):vh st an (k+1):=λj hj=>by
 by_cases e:j=k
 ·subst e;exact hk
 ·exact h j (by omega)
theorem zqt{m:Nat}(h1:vh st an k)(e1:(eX st an k 0).length=k)(h2:vh st an m)(e2:(eX st an m 0).length=m):k=m:=by
 rcases Nat.lt_trichotomy k m with h|h|h
 ·have:=h2 k h;omega
 ·exact h
 ·have:=h1 m h;omega
theorem OV{l t:List Nat}(h:k<l.length):(l++t).getD k 0=l.getD k 0:=by
 rw[bJ,vp h,bJ]
theorem zs9(st:Nat->Nat->Nat)(an:Nat->Int×Int)(k c:Nat):Fx st an k c<(eX st an k (c+1)).length:=by
 unfold Fx;rw[La];exact(zns st an _ _).2
theorem zgy(st:Nat->Nat->Nat)(an:Nat->Int×Int)(k c:Nat):Fx st an k c=nM st an (eX st an k c) (st ((eX st an k c).getD k 0) c):=by
 unfold Fx;rw[La];exact(zns st an _ _).1
theorem zrm(hk:k<K)(hc:c<256):Fx st an k c<(eX st an K 0).length:=by
 obtain⟨t,ht⟩:=Tw st an (k+1) K (by omega);obtain⟨t2,xS⟩:=ZF st an k (c+1) 256 (by omega);have:=zs9 st an k c;rw[ht,Tx,xS];simp only[aQ];omega
def lC(K:Nat)(R:Nat->Nat->Nat)(h c:Nat):Bool:=(List.range K).all λk=>R k h==R k c
theorem OJ{R:Nat->Nat->Nat}{h:Nat}:lC K R h c=true↔∀k,k<K->R k h=R k c:=by simp[lC]
theorem zoG(K:Nat)(R:Nat->Nat->Nat)(h:Nat):lC K R h h=true:=OJ.2 λ_ _=>rfl
def aY(K:Nat)(R:Nat->Nat->Nat):Nat->List Nat
 |0=>[]
 |c+1=>if (aY K R c).findIdx (λh=>lC K R h c)<(aY K R c).length then aY K R c else aY K R c++[c]
def fN(K:Nat)(R:Nat->Nat->Nat)(c:Nat):Nat:=(aY K R c).findIdx λh=>lC K R h c
theorem yg(K:Nat)(R:Nat->Nat->Nat)(c:Nat):aY K R (c+1)=if fN K R c<(aY K R c).length then aY K R c else aY K R c++[c]:=rfl
theorem Il(K:Nat)(R:Nat->Nat->Nat):∀c,∀h∈aY K R c,h<c
 |0,h,hh=>by simp[aY]at hh
 |c+1,h,hh=>by
  rw[yg]at hh;split at hh
  ·have:=Il K R c h hh;omega
  ·rcases gH.1 hh with hh|hh
   ·have:=Il K R c h hh;omega
   ·simp at hh;omega
theorem KV(K:Nat)(R:Nat->Nat->Nat):∀c,(aY K R c).length<=c
 |0=>by simp[aY]
 |c+1=>by
  have:=KV K R c;rw[yg];split
  ·omega
  ·simp;omega
theorem ZQ(K:Nat)(R:Nat->Nat->Nat):∀c i j,i<(aY K R c).length->j<(aY K R c).length->lC K R ((aY K R c).getD i 0) ((aY K R c).getD j 0)=true->i=j
 |0,i,j,hi,_,_=>by simp[aY]at hi
 |c+1,i,j,hi,hj,h=>by
  rw[yg]at hi hj h
  by_cases hc:fN K R c<(aY K R c).length
  ·rw[af hc]at hi hj h;exact ZQ K R c i j hi hj h
  ·rw[ab hc]at hi hj h;simp only[aQ,lW,qU]at hi hj;have zzf:∀i,i<(aY K R c).length->lC K R ((aY K R c).getD i 0) c=false:=λi hi=>by
    have hle:(aY K R c).length<=fN K R c:=by omega
    unfold fN at hle;have:=List.not_of_lt_findIdx (p:=λh=>lC K R h c) (i:=i) (by omega:i<(aY K R c).findIdx λh=>lC K R h c);rw[bJ,bE hi]
    simpa using this
   have nI:(aY K R c++[c]).getD (aY K R c).length 0=c:=by simp
   by_cases h1:i<(aY K R c).length<;>by_cases h2:j<(aY K R c).length
   ·rw[OV h1,OV h2]at h;exact ZQ K R c i j h1 h2 h
   ·have ej:j=(aY K R c).length:=by omega
    rw[OV h1,ej,nI,zzf i h1]at h;cases h
   ·have ei:i=(aY K R c).length:=by omega
    rw[OV h2,ei,nI]at h;have:=zzf j h2;have h':lC K R ((aY K R c).getD j 0) c=true:=OJ.2 λk hk=>(OJ.1 h k hk).symm
    rw[this]at h';cases h'
   ·omega
end
section
variable {xs:List Int}{x:Int}
def lO(l:List Nat):List zf:=l.map λx:Nat=>zd .i64 (x:Int)
theorem zlt(l:List Nat)(x:Nat):lO (l++[x])=lO l++[zd .i64 (x:Int)]:=by simp[lO]
theorem znX(l:List Nat)(i x:Nat):(lO l).set i (zd .i64 (x:Int))=lO (l.set i x):=by simp[lO,List.map_set]
theorem Le(l:List Nat){i:Nat}(h:i<l.length):(lO l)[i]?=za (zd .i64 ((l.getD i 0:Nat):Int)):=by
 simp[lO,List.getD_eq_getElem?_getD,h]
def dy(l:List Nat):List Int:=l.map λx:Nat=>(x:Int)
theorem gV(l:List Nat):(dy l).length=l.length:=by simp[dy]
theorem A2(l:List Nat)(i:Nat):(dy l).getD i 0=((l.getD i 0:Nat):Int):=by
 simp only[dy,bJ,wV];cases l[i]?<;>rfl
theorem zn5{w:ze}{B g cap:Nat}{l:List Nat}(h:w.ownsRow B 3 1 (zc (za ⟨g,0,zb⟩) l.length cap) l.length (lO l))(hl:l.length<=9223372036854775807):dD B w (zc (za ⟨g,0,zb⟩) l.length cap) (dy l):=by
 obtain⟨h1,h2,_,_⟩:=qd h;refine⟨_,_,by rw[gV],by rw[gV];exact hl,λ_=>⟨g,0,rfl,h1,h2,λi hi=>?_⟩⟩;rw[gV]at hi;rw[iH,h.cellAt i (by omega),Le l hi,A2]
def ld(xs:List Int)(x:Int):Int:=if xs.findIdx (· == x)<xs.length then (xs.findIdx (· == x):Int) else -1
theorem zm7:0<=ld xs x↔x∈xs:=by
 unfold ld;have h:xs.findIdx (· == x)<xs.length↔x∈xs:=by
  rw[List.findIdx_lt_length];exact⟨λ⟨y,h1,h2⟩=>(eq_of_beq h2) ▸ h1,λh=>⟨x,h,by simp⟩⟩
 split
 ·rename_i k;exact⟨λ_=>h.1 k,λ_=>by omega⟩
 ·rename_i k;exact⟨λe=>by omega,λe=>absurd (h.2 e) k⟩
theorem zq9:ld xs x<0↔x∉xs:=by
 rw[<-zm7];omega
theorem Ow{lo:Nat}(v:zf)(xs:List Int)(x:Int)(w:ze)(hs:dD lo w v xs):
  Calls prog 76 #[v,zd .i64 x] w λe w'=>e=.returned (zd .i64 (ld xs x))/\w'=w:=by
 obtain⟨ao,cap,rfl,hm,hc⟩:=hs
 go_enter func76,ntmps76
 go_wp2
 go_loopw [9] (λi wr=>∃k:Nat,k<=xs.length/\i=zd .i64 k/\wr=w/\Hid (∀j,j<k->xs.getD j 0≠x))
  (λi _=>xs.length-(intOf i).toNat)
 case atStart=>exact⟨0,dz _,rfl,rfl,λj hj=>absurd hj (fw _)⟩
 case round=>
  obtain⟨k,hk,rfl,rfl,HN⟩:=hrel
  by_cases hlt:k<xs.length
  ·obtain⟨b,o,y,rfl,Hn,bF,c0⟩:=hc.elem (Below.refl _ _) hlt;have eC:(0:Int)<=(k:Int):=by omega
   have dg:(k:Int)<(xs.length:Int):=by omega
   by_cases uQ:y=x
   ·have hb:(y==x)=true:=by simp[uQ]
    have HF:Hid (ld xs x=k):=by
     have e:xs.findIdx (· == x)=k:=by
      rw[List.findIdx_eq hlt];have e1:xs[k]=x:=by have:=Hn.out;rw[bJ,bE hlt]at this;simpa [uQ]using this
      refine⟨by simp[e1],λj hj=>?_⟩;have:=HN.out j hj;rw[bJ,bE (by omega)]at this
      simpa using this
     show ld xs x=k;unfold ld;rw[e,af hlt]
    go_wp2;go_ret;exact⟨ew HF.out.symm,by first|rfl|trivial⟩
   ·have hb:(y==x)=false:=by simp[uQ]
    go_wp2
    go_roundw
    case rel=>exact⟨k+1,by omega,by go_num,by first|rfl|trivial,λj hj=>by
     by_cases e:j=k
     ·subst e;rw[Hn.out];exact uQ
     ·exact HN.out j (by omega)⟩
    case measure=>simp[intOf];omega
  ·have HF:Hid (ld xs x=-1):=by
    have h1:ld xs x<0:=zq9.2 λNx=>by
     obtain⟨j,hj,e⟩:=Al.1 Nx;refine HN.out j (by omega) ?_;rw[bJ,bE hj];exact e
    show ld xs x=-1;unfold ld at h1 ⊢;split
    ·rw[af (by assumption)]at h1;omega
    ·rfl
   go_wp2;go_ret;exact⟨ew HF.out.symm,by first|rfl|trivial⟩
end
section
variable {d:aL}{l:List Nat}{k c:Nat}
def bn(d:aL):Nat:=d.width.toNat
def fj(d:aL)(s c:Nat):Nat:=(d.next.getD (s*bn d+c) 0).toNat
def kw(d:aL)(c:Nat):Nat:=(d.ai.getD c 0).toNat
def bH(d:aL)(s c:Nat):Nat:=fj d s (kw d c)
def dI(d:aL)(s:Nat):Int×Int:=(d.tag.getD s 0,d.fin.getD s 0)
theorem eI.wd(h:eI d):d.width=(bn d:Int)/\1<=bn d/\bn d<=256:=by have:=h.w1;have:=h.w2;unfold bn;omega
theorem eI.N9(h:eI d):d.next.length=d.tag.length*bn d:=by
 have h1:=h.nl;rw[h.wd.1]at h1
 exact_mod_cast h1
theorem eI.AZ(h:eI d){s c:Nat}(hs:s<d.tag.length)(hc:c<bn d):s*bn d+c<d.next.length:=by
 rw[h.N9];have:=IM (bn d) (show s+1<=d.tag.length by omega);rw[Aj,Nat.one_mul]at this;omega
theorem eI.nx(h:eI d){s c:Nat}(hs:s<d.tag.length)(hc:c<bn d):d.next.getD (s*bn d+c) 0=(fj d s c:Int)/\fj d s c<d.tag.length:=by
 have k:=ju h.ns (k:=s*bn d+c) (h.AZ hs hc);have:=h.n1;unfold fj;omega
theorem eI.yX(h:eI d){c:Nat}(hc:c<256):d.ai.getD c 0=(kw d c:Int)/\kw d c<bn d:=by
 have k:=ju h.cs (k:=c) (by have:=h.cl;omega);have w:=h.wd;unfold kw;omega
theorem eI.stc(h:eI d){s c:Nat}(hs:s<d.tag.length)(hc:c<256):bH d s c<d.tag.length:=(h.nx hs (h.yX hc).2).2
theorem Fe:∀(n:Nat) (l:List Nat),l.Nodup->(∀x∈l,x<n)->l.length<=n
 |0,l,_,h=>by
  cases l with
  |nil=>simp
  |cons a l=>exact absurd (h a (by simp)) (fw _)
 |n+1,l,hn,h=>by
  have h1:=Fe n (l.erase n) (hn.erase n) (λx hx=>by
   have h2:=h x (List.mem_of_mem_erase hx);have h3:x≠n:=λe=>by subst e;exact(List.Nodup.not_mem_erase hn) hx
   omega)
  by_cases hm:n∈l
  ·rw[List.length_erase_of_mem hm]at h1;omega
  ·rw[List.erase_of_not_mem hm]at h1;omega
structure uz(d:aL)(l:List Nat):Prop where
 pos:0<l.length
 head:l.getD 0 0=0
 nd:l.Nodup
 lt:∀x∈l,x<d.tag.length
 cl:∀x∈l,∀c,c<256->bH d x c∈l
structure rW(d:aL)(l:List Nat)(k c:Nat):Prop where
 pos:0<l.length
 head:l.getD 0 0=0
 nd:l.Nodup
 lt:∀x∈l,x<d.tag.length
 done:∀j,j<k->∀i,i<bn d->(i:Int)∈d.ai->fj d (l.getD j 0) i∈l
 now:∀i,i<c->(i:Int)∈d.ai->fj d (l.getD k 0) i∈l
theorem rW.more{x:Nat}(h:rW d l k c)(hk:k<l.length)(hx:x<d.tag.length)(hn:x∉l)(e:fj d (l.getD k 0) c=x):rW d (l++[x]) k (c+1):=by
 have hg:∀j,j<l.length->(l++[x]).getD j 0=l.getD j 0:=λj hj=>OV hj
 refine⟨by simp,by rw[hg 0 h.pos];exact h.head,?_,λy hy=>?_,λj hj i hi hu=>?_,λi hi hu=>?_⟩
 ·rw[List.nodup_append];exact⟨h.nd,by simp,λa ha b hb=>by simp at hb;subst hb;exact λe=>hn (e ▸ ha)⟩
 ·rcases gH.1 hy with hy|hy
  ·exact h.lt y hy
  ·simp at hy;omega
 ·rw[hg j (by omega)];exact gH.2 (.inl (h.done j hj i hi hu))
 ·rw[hg k hk]
  by_cases ei:i=c
  ·subst ei;rw[e];simp
  ·exact gH.2 (.inl (h.now i (by omega) hu))
theorem rW.skip(h:rW d l k c)(hs:(c:Int)∈d.ai->fj d (l.getD k 0) c∈l):rW d l k (c+1):=
 ⟨h.pos,h.head,h.nd,h.lt,h.done,λi hi hu=>by
  by_cases ei:i=c
  ·subst ei;exact hs hu
  ·exact h.now i (by omega) hu⟩
theorem rW.row(h:rW d l k c)(hc:bn d<=c):rW d l (k+1) 0:=
 ⟨h.pos,h.head,h.nd,h.lt,λj hj i hi hu=>by
  by_cases ej:j=k
  ·subst ej;exact h.now i (by omega) hu
  ·exact h.done j (by omega) i hi hu,λi hi=>absurd hi (fw _)⟩
theorem rW.end(hf:eI d)(h:rW d l k 0)(hk:l.length<=k):uz d l:=
 ⟨h.pos,h.head,h.nd,h.lt,λx hx c hc=>by
  obtain⟨j,hj,e⟩:=Al.1 hx;have:=h.done j (by omega) (kw d c) (hf.yX hc).2 (by
   rw[<-(hf.yX hc).1,bJ,bE (by have:=hf.cl;omega)];exact gA _)
  rw[bJ,bE hj]at this;simp only[Option.getD_some,e]at this;exact this⟩
theorem zrc(d:aL)(hf:eI d):rW d [0] 0 0:=
 ⟨by simp,rfl,by simp,λx hx=>by simp at hx;have:=hf.n1;omega,λj hj=>absurd hj (fw _),λi hi=>absurd hi (fw _)⟩
def ReR(w:ze)(d:aL)(e:Ending)(w':ze):Prop:=
 ∃(g cap:Nat) (l:List Nat),e=.returned (zc (za ⟨g,0,zb⟩) l.length cap)/\w'.ownsRow w.heap.size 3 1 (zc (za ⟨g,0,zb⟩) l.length cap) l.length (lO l)/\uz d l/\Below w.heap.size w w'
end
theorem zhZ{w:ze}{base Mt:Nat}{e:zg}{size:Nat}{v:zf}{n:Nat}{xs:List zf}(h:w.ownsRow base e size v n xs)(hb:Mt<=base):w.ownsRow Mt e size v n xs:=
 ⟨h.1,h.2.imp id λ⟨g,cap,aZ,h1,h2,h3⟩=>⟨g,cap,aZ,h1,cY hb h2,h3⟩⟩
def zxV(W0:ze)(d:aL)(k c:Nat)(v:zf)(wr:ze):Prop:=
 ∃(g cap:Nat) (l:List Nat),v=zc (za ⟨g,0,zb⟩) l.length cap/\wr.ownsRow W0.heap.size 3 1 (zc (za ⟨g,0,zb⟩) l.length cap) l.length (lO l)/\rW d l k c/\Below W0.heap.size W0 wr
theorem zlm{lo:Nat}(cv nv tv ev:zf)(d:aL)(w:ze)(hs:dP lo w cv nv tv ev d)(hf:eI d):
  Calls prog 73 #[.agg #[cv,zd .i64 d.width,nv,tv,ev]] w λe w'=>ReR w d e w':=by
 obtain⟨i0,hi,da,dt,cR⟩:=info_parts Tryz.pX;obtain⟨hw,xU,kY⟩:=hf.wd;rw[hw];clear hw;have pj:=hs;obtain⟨⟨ca,cc,rfl,cm,cx⟩,⟨na,nc,rfl,nm,nx⟩,⟨ta,tc,rfl,tm,_⟩,⟨ea,ec,rfl,em,_⟩⟩:=hs;have j7:=hf.n1;have kA:=hf.n2;obtain⟨nb,no,rfl,_,nl,nqc⟩:=nx (by rw[hf.N9];exact Nat.mul_pos (by omega) (by omega));obtain⟨W0,aw⟩:∃W0,w.alloc (.cells #[.slice ca d.ai.length cc,zd .i64 (bn d:Int),zc (za ⟨nb,no,zb⟩) d.next.length nc,.slice ta d.tag.length tc,.slice ea d.fin.length ec] 25)=W0:=⟨_,rfl⟩;have aD:Below w.heap.size w W0:=by rw[<-aw];exact ax
 have x0:W0.heap[w.heap.size]?=za (.cells #[.slice ca d.ai.length cc,zd .i64 (bn d:Int),zc (za ⟨nb,no,zb⟩) d.next.length nc,.slice ta d.tag.length tc,.slice ea d.fin.length ec] 25 (0,0)):=by rw[<-aw];exact aJ _ _
 have J6:w.heap.size<W0.heap.size:=(lU.1 x0).1;have oB:zxV W0 d 0 0 (zc (za ⟨W0.heap.size,0,zb⟩) 1 1) (W0.alloc (.cells #[zd .i64 0] 3)):=
  ⟨W0.heap.size,1,[0],rfl,⟨rfl,.inr ⟨_,_,_,rfl,aq _,aJ _ _,aq _,by unfold maxLen;omega,rfl,rfl⟩⟩,zrc d hf,ax⟩
 go_enter func73,ntmps73
 go_wp2
 go_loopw [3,4] (λv i wr=>∃k:Nat,i=zd .i64 k/\zxV W0 d k 0 v wr)
  (λ_ i _=>d.tag.length-(intOf i).toNat)
 case atStart=>first|exact⟨0,rfl,oB⟩|(refine⟨0,rfl,?_⟩;rw[<-aw]at oB ⊢;simpa using oB)
 case round=>
  obtain⟨k,rfl,g,cap,l,rfl,bL,hR,hb⟩:=hrel;have hlen:=Fe _ l hR.nd hR.lt
  by_cases hlt:k<l.length
  ·have eC:(0:Int)<=(k:Int):=by omega
   have dg:(k:Int)<(l.length:Int):=by omega
   go_wp2
   go_loopw [3,5] (λv i wr=>∃(c g cap:Nat) (l:List Nat),c<=bn d/\i=zd .i64 c/\v=zc (za ⟨g,0,zb⟩) l.length cap/\k<l.length/\wr.ownsRow W0.heap.size 3 1 (zc (za ⟨g,0,zb⟩) l.length cap) l.length (lO l)/\Hid (rW d l k c)/\Below W0.heap.size W0 wr)
    (λ_ i _=>bn d-(intOf i).toNat)
   case atStart=>exact⟨0,g,cap,l,dz _,rfl,rfl,hlt,bL,hR,hb⟩
   case round=>
    clear bL hR hb hlt hlen eC dg;obtain⟨c,g,cap,l,hc,rfl,rfl,hlt,bL,HR,hb⟩:=hrel;have hlen:=Fe _ l HR.out.nd HR.out.lt;have eC:(0:Int)<=(k:Int):=by omega
    have dg:(k:Int)<(l.length:Int):=by omega
    have hx:=(hb.block _ J6).trans x0;obtain⟨q0,q1,q2,q3,q4⟩:=dM hx
    by_cases aV:c<bn d
    ·have fP:Below w.heap.size w wr:=aD.trans (hb.mono aD.size);have Yx:l.getD k 0<d.tag.length:=HR.out.lt _ (by rw[bJ,bE hlt];exact gA _);have c1:=bL.cellAt k (by omega);rw[Le l hlt]at c1;have iw:=hf.nx Yx aV;have c2:=(fP.cell (p:=⟨nb,no+(l.getD k 0*bn d+c),zb⟩) nl).trans (nqc _ (hf.AZ Yx aV));rw[iw.1]at c2;have du:=Ow _ d.ai c wr (pj.ai.below fP);have zyY:=hf.AZ Yx aV;have hmul:l.getD k 0*bn d<=4000*256:=oU (by omega) kY;have Sf:∀W:ze,W.ownsRow W0.heap.size 3 1 (zc (za ⟨g,0,zb⟩) l.length cap) l.length (lO l)->Calls prog 76 #[zc (za ⟨g,0,zb⟩) l.length cap,zd .i64 (fj d (l.getD k 0) c)] W λe w'=>e=.returned (zd .i64 (ld (dy l) (fj d (l.getD k 0) c)))/\w'=W:=λW hW=>Ow _ (dy l) _ W (zn5 hW (by omega))
     have zxO:Hid (ld (dy l) (fj d (l.getD k 0) c)<0↔fj d (l.getD k 0) c∉l):=by
      show _↔_;rw[zq9];unfold dy;rw[Am];exact⟨λh hm=>h ⟨_,hm,rfl⟩,λh ⟨x,hx,e⟩=>h (by have e2:x=fj d (l.getD k 0) c:=(by omega);exact e2 ▸ hx)⟩
     have Hsk:Hid (((c:Int)∈d.ai->fj d (l.getD k 0) c∈l)->rW d l k (c+1)):=λh=>HR.out.skip h
     have Hmo:Hid (fj d (l.getD k 0) c∉l->rW d (l++[fj d (l.getD k 0) c]) k (c+1)):=λh=>HR.out.more hlt iw.2 h rfl
     have Qm:Hid (0<=ld d.ai c↔(c:Int)∈d.ai):=zm7;generalize fj d (l.getD k 0) c=y at *;generalize l.getD k 0=s0 at *;generalize ld d.ai (c:Int)=pu at *;generalize ld (dy l) (y:Int)=pv at *;have GL:(0:Int)<=(s0:Int)*(bn d:Int):=Bm (by omega) (by omega);have se:(s0:Int)*(bn d:Int)<=1024000:=by have:((s0*bn d:Nat):Int)<=((4000*256:Nat):Int):=(by exact_mod_cast hmul);simpa using this
     have sf:((s0:Int)*(bn d:Int)+(c:Int))=((s0*bn d+c:Nat):Int):=by simp
     have iD:(s0:Int)*(bn d:Int)+(c:Int)<(d.next.length:Int):=by rw[sf];exact_mod_cast zyY
     have Sp:((s0:Int)*(bn d:Int)+(c:Int)).toNat=s0*bn d+c:=by rw[sf];exact s7 _
     rw[<-Sp]at c2;have lM:0<=(s0:Int)*(bn d:Int)+(c:Int):=by omega
     have kC:(s0:Int)*(bn d:Int)+(c:Int)<=2000000:=by omega
     clear Sp sf zyY hmul iw;obtain⟨P,hP⟩:∃P,(s0:Int)*(bn d:Int)=P:=⟨_,rfl⟩;rw[hP]at GL se iD c2 lM kC;have xN:(c:Int)<(bn d:Int):=by omega
     have hB:=hb.size
     by_cases hu:0<=pu
     ·by_cases hv:pv<0
      ·go_wp2_with (go_at_call 76;refine du.mono ?_;rintro e w' ⟨rfl,hw'⟩;subst w')
       go_quiet (fail)
       have xM:Below wr.heap.size wr (wr.drewN nq):=below_drewN (Below.refl _ _) nq;have uN:=vb bL xM;have Yl:=Sf _ uN
       go_wp2_with (first|(go_at_call 76;refine Yl.mono ?_;rintro e w' ⟨rfl,hw'⟩;subst w')|(refine CL (wr.drewN nq) _ rfl rfl (.tmp 46) (.tmp 48) 23 rfl W0.heap.size 3 i0 (zd .i64 0) 8 underlying23 hi da dt cR rfl g cap l.length (lO l) (zd .i64 (y:Int)) rfl uN rfl rfl (by omega) (by omega) hB ?_;intro g' cap' w5 Kg JX fV))
       go_roundw
       case rel=>exact⟨c+1,g',cap',l++[y],by omega,by go_num,by simp,by simp;omega,by rw[zlt];simpa using Kg,Hmo.out (zxO.out.1 (by omega)),(hb.trans (xM.mono hB)).grown JX hB (λq hq=>by cases hq;exact(qd bL).1)⟩
       case measure=>simp[intOf];omega
      ·go_wp2_with (go_at_call 76;refine du.mono ?_;rintro e w' ⟨rfl,hw'⟩;subst w')
       go_quiet (fail)
       have xM:Below wr.heap.size wr (wr.drewN nq):=below_drewN (Below.refl _ _) nq;have uN:=vb bL xM;have Yl:=Sf _ uN
       go_wp2_with (go_at_call 76;refine Yl.mono ?_;rintro e w' ⟨rfl,hw'⟩;subst w')
       go_roundw
       case rel=>exact⟨c+1,g,cap,l,by omega,by go_num,rfl,hlt,uN,Hsk.out (λ_=>by
        by_cases e:y∈l
        ·exact e
        ·exact absurd (zxO.out.2 e) (by omega)),hb.trans (xM.mono hB)⟩
       case measure=>simp[intOf];omega
     ·go_wp2_with (go_at_call 76;refine du.mono ?_;rintro e w' ⟨rfl,hw'⟩;subst w')
      go_quiet (fail)
      have xM:Below wr.heap.size wr (wr.drewN nq):=below_drewN (Below.refl _ _) nq;have uN:=vb bL xM;go_wp2
      go_roundw
      case rel=>exact⟨c+1,g,cap,l,by omega,by go_num,rfl,hlt,uN,Hsk.out (λe=>absurd (Qm.out.2 e) (by omega)),hb.trans (xM.mono hB)⟩
      case measure=>simp[intOf];omega
    ·go_wp2
     go_roundw
     case rel=>exact⟨k+1,by go_num,g,cap,l,rfl,bL,HR.out.row (by omega),hb⟩
     case measure=>simp[intOf];omega
  ·have pQ:=hR.end hf (by omega);have fP:Below w.heap.size w wr:=aD.trans (hb.mono aD.size);go_wp2;refine aW (v:=zc (za ⟨g,0,zb⟩) l.length cap) (by simp[results,results73,go_sem]) rfl ⟨g,cap,l,rfl,zhZ bL (by omega),pQ,fP⟩
section
variable {x:Nat}{m:Nat -> Nat -> Bool}{l:List Nat}{d:aL}
def nQ(m:Nat->Nat->Bool)(x y:Nat):Nat->Nat->Bool:=λa b=>if a=x/\b=y then true else m a b
def yw(n:Nat)(m:Nat->Nat->Bool):Nat:=((List.range n).map λx=>((List.range n).filter λy=>!m x y).length).sum
theorem ziW(m:Nat->Nat->Bool)(x y:Nat):∀n,y<n->m x y=false->((List.range n).filter λb=>!nQ m x y x b).length+1=((List.range n).filter λb=>!m x b).length
 |0,h,_=>absurd h (fw _)
 |n+1,h,hm=>by
  rw[yE,List.filter_append,List.filter_append,aQ,aQ]
  by_cases e:y=n
  ·subst e;have h1:((List.range y).filter λb=>!nQ m x y x b)=(List.range y).filter λb=>!m x b:=List.filter_congr λb hb=>by
    have:b<y:=by simpa using hb
    unfold nQ;rw[ab (by omega)]
   rw[h1];simp[nQ,hm]
  ·have ih:=ziW m x y n (by omega) hm;have h1:([n].filter λb=>!nQ m x y x b)=[n].filter λb=>!m x b:=List.filter_congr λb hb=>by
    simp at hb;unfold nQ;rw[ab (by omega)]
   rw[h1];omega
theorem zrK{f g:Nat->Nat}(hne:∀a,a≠x->f a=g a)(hx:f x+1=g x):∀n,x<n->((List.range n).map f).sum+1=((List.range n).map g).sum
 |0,h=>absurd h (fw _)
 |n+1,h=>by
  rw[yE,sY,sY,List.sum_append,List.sum_append]
  by_cases e:x=n
  ·subst e;have:(List.range x).map f=(List.range x).map g:=Ak λa ha=>hne a (by have:a<x:=(by simpa using ha);omega)
   rw[this];simp only[Dm,List.map_nil,List.sum_cons,List.sum_nil];omega
  ·have ih:=zrK hne hx n (by omega);have:=hne n (λe2=>e e2.symm);simp only[Dm,List.map_nil,List.sum_cons,List.sum_nil];omega
theorem zoe{n y:Nat}(hx:x<n)(hy:y<n)(hm:m x y=false):yw n (nQ m x y)+1=yw n m:=by
 unfold yw;refine zrK (x:=x) (λa ha=>?_) (ziW m x y n hy hm) n hx;have:((List.range n).filter λb=>!nQ m x y a b)=(List.range n).filter λb=>!m a b:=List.filter_congr λb _=>by
  unfold nQ;rw[ab (λe=>ha e.1)]
 rw[this]
structure Dt(d:aL)(l:List Nat)(m:Nat->Nat->Bool):Prop where
 snd:∀x y,x<l.length->y<l.length->m x y=true->¬fg (bH d) (dI d) (l.getD x 0) (l.getD y 0)
 base:∀x y,x<l.length->y<l.length->dI d (l.getD x 0)≠dI d (l.getD y 0)->m x y=true
theorem Fk(hx:x∈l):∃i,i<l.length/\l.getD i 0=x:=by
 obtain⟨i,hi,e⟩:=Al.1 hx;exact⟨i,hi,by rw[bJ,bE hi];exact e⟩
theorem Tp(h:l.Nodup){i j:Nat}(hi:i<l.length)(hj:j<l.length)(e:l.getD i 0=l.getD j 0):i=j:=by
 rw[bJ,bE hi,bJ,bE hj]at e;have hp:=List.pairwise_iff_getElem.1 h;simp only[Option.getD_some]at e;rcases Nat.lt_trichotomy i j with k|k|k
 ·exact absurd e (hp i j hi hj k)
 ·exact k
 ·exact absurd e.symm (hp j i hj hi k)
theorem zpB(hf:eI d){l:List Nat}(hR:uz d l){m:Nat->Nat->Bool}(hA:Dt d l m)
  (hc:∀x y,x<l.length->y<l.length->m x y=false->∀c,c<bn d->(c:Int)∈d.ai->∀tx ty,tx<l.length->ty<l.length->l.getD tx 0=fj d (l.getD x 0) c->l.getD ty 0=fj d (l.getD y 0) c->m tx ty=false)
  {x y:Nat} (hx:x<l.length) (hy:y<l.length):m x y=false↔fg (bH d) (dI d) (l.getD x 0) (l.getD y 0):=by
 constructor
 ·intro h;refine zr6 (λs t=>∃x y,x<l.length/\y<l.length/\l.getD x 0=s/\l.getD y 0=t/\m x y=false) ?_ ?_ ⟨x,y,hx,hy,rfl,rfl,h⟩
  ·rintro s t ⟨x,y,hx,hy,rfl,rfl,h⟩
   by_cases e:dI d (l.getD x 0)=dI d (l.getD y 0)
   ·exact e
   ·have:=hA.base x y hx hy e;rw[h]at this;cases this
  ·rintro s t c ⟨x,y,hx,hy,rfl,rfl,h⟩ hcc;have mx:l.getD x 0∈l:=by rw[bJ,bE hx];exact gA _
   have my:l.getD y 0∈l:=by rw[bJ,bE hy];exact gA _
   obtain⟨tx,zG,ex⟩:=Fk (hR.cl _ mx c hcc);obtain⟨ty,EK,ey⟩:=Fk (hR.cl _ my c hcc);refine⟨tx,ty,zG,EK,ex,ey,hc x y hx hy h (kw d c) (hf.yX hcc).2 ?_ tx ty zG EK ex ey⟩;rw[<-(hf.yX hcc).1,bJ,bE (by have:=hf.cl;omega)];exact gA _
 ·intro h;cases e:m x y
  ·rfl
  ·exact absurd h (hA.snd x y hx hy e)
theorem Dt.put(h:Dt d l m){x y tx ty c:Nat}(zG:tx<l.length)(EK:ty<l.length)(ex:l.getD tx 0=bH d (l.getD x 0) c)(ey:l.getD ty 0=bH d (l.getD y 0) c)(hc:c<256)(ht:m tx ty=true):Dt d l (nQ m x y):=
 ⟨λa b ha hb e=>by
  unfold nQ at e;split at e
  ·rename_i k
   obtain⟨rfl,rfl⟩:=k;intro al;have:=al.step hc;rw[<-ex,<-ey]at this;exact h.snd tx ty zG EK ht this
  ·exact h.snd a b ha hb e,λa b ha hb e=>by
  unfold nQ;split
  ·rfl
  ·exact h.base a b ha hb e⟩
end
def Jc(l zs:List Nat)(n k:Nat):Prop:=zs.length=n/\∀j,j<k->zs.getD (l.getD j 0) 0=j
theorem Jc.next{l zs:List Nat}{n k:Nat}(h:Jc l zs n k)(hn:l.Nodup)(hk:k<l.length)(hl:l.getD k 0<n):Jc l (zs.set (l.getD k 0) k) n (k+1):=by
 refine⟨by simp[h.1],λj hj=>?_⟩;have h1:=h.1
 by_cases e:j=k
 ·subst e;rw[bJ,List.getElem?_set_self (by omega)]
  rfl
 ·have hne:l.getD k 0≠l.getD j 0:=λe2=>e (Tp hn hk (by omega) e2).symm
  rw[bJ,List.getElem?_set_ne hne,<-bJ];exact h.2 j (by omega)
def ik(d:aL)(c:Nat):List Nat:=(List.range c).filter λi=>decide ((i:Int)∈d.ai)
theorem zpu(d:aL)(c:Nat):ik d (c+1)=if (c:Int)∈d.ai then ik d c++[c] else ik d c:=by
 unfold ik;rw[yE,List.filter_append]
 by_cases h:(c:Int)∈d.ai
 ·rw[af h];simp[h]
 ·rw[ab h];simp[h]
theorem zil{d:aL}{c i:Nat}:i∈ik d c↔i<c/\(i:Int)∈d.ai:=by simp[ik]
theorem zme(d:aL)(c:Nat):(ik d c).length<=c:=by
 have:=List.length_filter_le (λi:Nat=>decide ((i:Int)∈d.ai)) (List.range c)
 simpa [ik]using this
theorem zhO(n:Nat):(madeCells (Value.int .i64 0).cells (n*1)).toList=lO (List.replicate n 0):=by
 apply List.ext_getElem?
 intro i
 by_cases h:i<n
 ·simp[madeCells,lO,Value.cells,Nat.mod_one,h]
 ·simp[madeCells,lO,h]
variable {gr:Nat -> Nat}{n k base B:Nat}{w:ze}{v:zf}{xs:List zf}{m:Nat -> Nat -> Bool}
def oR(n:Nat)(f:Nat->Bool):Array zf:=((List.range n).map λi=>Value.bool (f i)).toArray
theorem OI(n:Nat)(f:Nat->Bool){i:Nat}(h:i<n):(oR n f)[i]?=za (.bool (f i)):=by simp[oR,h]
theorem zkB(n:Nat)(f:Nat->Bool)(i:Nat)(b:Bool):(oR n f).setIfInBounds i (.bool b)=oR n (λj=>if j=i then b else f j):=by
 apply Array.ext_getElem?
 intro j;rw[Array.getElem?_setIfInBounds];have hs:(oR n f).size=n:=by simp[oR]
 have h1:∀g:Nat->Bool,¬j<n->(oR n g)[j]?=zb:=λg hj=>LF (by simp[oR];omega)
 by_cases h:j<n
 ·by_cases e:i=j
  ·subst e;rw[af rfl,hs,af h,OI n _ h];simp
  ·rw[ab e,OI n f h,OI n _ h];simp;intro k;exact absurd k.symm e
 ·rw[h1 _ h,h1 _ h]
  by_cases e:i=j
  ·subst e;rw[af rfl,hs,ab h]
  ·rw[ab e]
def A1(gr:Nat->Nat)(n k:Nat):List zf:=(List.range k).map λx=>zc (za ⟨gr x,0,zb⟩) n n
theorem zrA(gr:Nat->Nat)(n k:Nat):A1 gr n (k+1)=A1 gr n k++[zc (za ⟨gr k,0,zb⟩) n n]:=by simp[A1,List.range_succ]
theorem zpr{gr':Nat->Nat}(h:∀x,x<k->gr x=gr' x):A1 gr n k=A1 gr' n k:=Ak λx hx=>by rw[h x (by simpa using hx)]
theorem zR{a b:Array zf}{t u:zg}{f g:Nat×Nat}(h:za (Obj.cells a t f)=za (Obj.cells b u g)):t=u:=by
 injection h with h
 injection h
theorem zlG{W:ze}{e:zg}{sz:Nat}(h:w.ownsRow base e sz v n xs)(hk:∀(k:Nat) (cs:Array zf),w.heap[k]?=za (.cells cs e (0,0))->W.heap[k]?=za (.cells cs e (0,0))):W.ownsRow base e sz v n xs:=by
 refine⟨h.1,?_⟩;rcases h.2 with h0|⟨g,cap,aZ,hv,hg,hh,r⟩
 ·exact .inl h0
 ·exact .inr ⟨g,cap,aZ,hv,hg,hk g aZ hh,r⟩
theorem ZL(W:ze)(b j:Nat)(v:zf):W.grownBy (W.setCell ⟨b,j,zb⟩ v) (za b):=
 ⟨rfl,rfl,rfl,by simp[World.setCell],λk _ hk=>Below.heap_setCell _ _ _ _ (λe=>hk (by rw[e]))⟩
structure iy(B:Nat)(w:ze)(n k:Nat)(v:zf)(gr:Nat->Nat)(m:Nat->Nat->Bool):Prop where
 out:w.ownsRow B 93 1 v k (A1 gr n k)
 rows:∀x,x<k->w.heap[gr x]?=za (.cells (oR n (m x)) 4 (0,0))
 base:∀x,x<k->B<=gr x
 inj:∀x y,x<k->y<k->gr x=gr y->x=y
theorem iy.below{w':ze}(h:iy B w n k v gr m)(hb:Below w.heap.size w w'):iy B w' n k v gr m:=
 ⟨vb h.out hb,λx hx=>(hb.block _ (lU.1 (h.rows x hx)).1).trans (h.rows x hx),h.base,h.inj⟩
theorem iy.cell(h:iy B w n k v gr m){x y:Nat}(hx:x<k)(hy:y<n):w.cell? ⟨gr x,y,zb⟩=za (.bool (m x y))/\w.frozen? ⟨gr x,y,zb⟩=false:=by
 have r:=h.rows x hx;exact⟨by rw[iY _ _ _ _ _ _ r,OI n _ hy],aM _ _ y _ _ r⟩
theorem iy.outer(h:iy B w n k v gr m)(hk:0<k):∃g cap,v=zc (za ⟨g,0,zb⟩) k cap/\B<=g/\g<w.heap.size/\∀x,x<k->w.cell? ⟨g,x,zb⟩=za (zc (za ⟨gr x,0,zb⟩) n n):=by
 rcases h.out.2 with ⟨_,h0⟩|⟨g,cap,aZ,hv,hg,hh,sj,_,hsz,ht⟩
 ·omega
 ·refine⟨g,cap,hv,hg,(lU.1 hh).1,λx hx=>?_⟩;rw[iY _ _ _ _ _ _ hh];have:(A1 gr n k)[x]?=aZ[x]?:=by rw[<-ht,List.getElem?_take,af (by omega),Array.getElem?_toList]
  rw[<-this];simp[A1,hx]
theorem iy.put(h:iy B w n k v gr m){x:Nat}(hx:x<k)(y:Nat):iy B (w.setCell ⟨gr x,y,zb⟩ (.bool true)) n k v gr (nQ m x y):=by
 have r:=h.rows x hx;have hg:=ZL w (gr x) y (.bool true);refine⟨zlG h.out λq cs e=>(hg.block q (lU.1 e).1 (λe2=>?_)).trans e,λa ha=>?_,h.base,h.inj⟩
 ·cases e2
  rw[r]at e;exact absurd (zR e) (by decide)
 ·by_cases e:a=x
  ·subst e;have:=cJ w (gr a) y _ _ (.bool true) r;rw[zkB]at this;rw[this]
   congr 3
   funext j
   unfold nQ
   by_cases ej:j=y
   ·rw[af ej,af ⟨rfl,ej⟩]
   ·rw[ab ej,ab (λk=>ej k.2)]
  ·have hne:za (gr a)≠za (gr x):=λe2=>e (h.inj a x ha hx (Option.some.inj e2))
   rw[hg.block _ (lU.1 (h.rows a ha)).1 hne,h.rows a ha]
   congr 3
   funext j
   unfold nQ;rw[ab (λk=>e k.1)]
theorem Tryz.zCi:(prog.info? 4).map (λi=>(i.zero,i.size,i.bytes))=za (za (.bool false),1,1):=by kernel_rfl
theorem Tryz.zCk:(prog.info? 93).map (λi=>(i.zero,i.size,i.bytes))=za (za (zc zb 0 0),1,24):=by kernel_rfl
theorem zm3(n:Nat):(madeCells (Value.bool false).cells (n*1)).toList.toArray=oR n (λ_=>false):=by
 apply Array.ext_getElem?
 intro i
 by_cases h:i<n
 ·simp[madeCells,oR,Value.cells,Nat.mod_one,h]
 ·simp[madeCells,oR,h]
theorem zq3{e:zg}{g:Nat}(h:w.ownsRow base e 1 (zc (za ⟨g,0,zb⟩) n n) n xs):w.heap[g]?=za (.cells xs.toArray e (0,0)):=by
 rcases h.2 with ⟨h,_⟩|⟨g',cap,cr,h,_,et,_,_,hsz,eV⟩
 ·cases h
 ·cases h
  rw[et]
  congr 2
  apply Array.ext'
  rw[sX (by simp[hsz])]at eV;rw[eV]
def tA(d:aL)(l:List Nat)(x y:Nat):Bool:=!(d.tag.getD (l.getD x 0) 0==d.tag.getD (l.getD y 0) 0) || !(d.fin.getD (l.getD x 0) 0==d.fin.getD (l.getD y 0) 0)
theorem zop(d:aL)(l:List Nat):Dt d l (tA d l):=
 ⟨λx y _ _ e al=>by
  have h:=al.an;unfold dI at h;unfold tA at e;injection h with h1 h2
  rw[h1,h2]at e;simp at e,λx y _ _ e=>by
  unfold tA
  by_cases h1:d.tag.getD (l.getD x 0) 0=d.tag.getD (l.getD y 0) 0
  ·by_cases h2:d.fin.getD (l.getD x 0) 0=d.fin.getD (l.getD y 0) 0
   ·exact absurd (by unfold dI;rw[h1,h2]) e
   ·rw[lY.2 h2];simp
  ·rw[lY.2 h1];simp⟩
end Go.Proofs.YtfajjdgkiilhfaaGreatDoor
