import Derived.Test.YtfajjdgkiilhfaaC2
namespace Go.Proofs.Ytfajjdgkiilhfaa
open Proofs.Try
open Option renaming some->za,none->zh
open Value renaming slice->zi,int->zn
open Go renaming World->zp,Value->zw,TypeId->zx
set_option maxHeartbeats 2000000
set_option maxRecDepth 100000
open Go.RowKit
attribute [local go_sem ↓] wp_at_zero wp_at_succ
section
variable {xs:List Int}{x:Int}
def iY(l:List Nat):List zw:=l.map λx:Nat=>zn .i64 (x:Int)
theorem zkn(l:List Nat)(x:Nat):iY (l++[x])=iY l++[zn .i64 (x:Int)]:=by simp[iY]
theorem zji(l:List Nat)(i x:Nat):(iY l).set i (zn .i64 (x:Int))=iY (l.set i x):=by simp[iY,List.map_set]
theorem Mh(l:List Nat){i:Nat}(h:i<l.length):(iY l)[i]?=za (zn .i64 ((l.getD i 0:Nat):Int)):=by
 simp[iY,List.getD_eq_getElem?_getD,h]
def aO(l:List Nat):List Int:=l.map λx:Nat=>(x:Int)
theorem cW(l:List Nat):(aO l).length=l.length:=by simp[aO]
theorem uu(l:List Nat)(i:Nat):(aO l).getD i 0=((l.getD i 0:Nat):Int):=by
 simp only[aO,bI,vE];cases l[i]?<;>rfl
theorem zmI{w:zp}{B g cap:Nat}{l:List Nat}(h:w.ownsRow B 3 1 (zi (za ⟨g,0,zh⟩) l.length cap) l.length (iY l))(hl:l.length<=9223372036854775807):dW B w (zi (za ⟨g,0,zh⟩) l.length cap) (aO l):=by
 obtain⟨h1,h2,_,_⟩:=nW h;refine⟨_,_,by rw[cW],by rw[cW];exact hl,λ_=>⟨g,0,rfl,h1,h2,λi hi=>?_⟩⟩;rw[cW]at hi;rw[jB,h.cellAt i (by omega),Mh l hi,uu]
def lg(xs:List Int)(x:Int):Int:=if xs.findIdx (· == x)<xs.length then (xs.findIdx (· == x):Int) else -1
theorem zlP:0<=lg xs x↔x∈xs:=by
 unfold lg;have h:xs.findIdx (· == x)<xs.length↔x∈xs:=by
  rw[List.findIdx_lt_length];exact⟨λ⟨y,h1,h2⟩=>(eq_of_beq h2) ▸ h1,λh=>⟨x,h,by simp⟩⟩
 split
 ·rename_i k;exact⟨λ_=>h.1 k,λ_=>by omega⟩
 ·rename_i k;exact⟨λe=>by omega,λe=>absurd (h.2 e) k⟩
theorem zpm:lg xs x<0↔x∉xs:=by
 rw[<-zlP];omega
theorem PN{lo:Nat}(v:zw)(xs:List Int)(x:Int)(w:zp)(hs:dW lo w v xs):
  Calls prog 62 #[v,zn .i64 x] w λe w'=>e=.returned (zn .i64 (lg xs x))/\w'=w:=by
 obtain⟨ao,cap,rfl,hm,hc⟩:=hs
 go_enter func62,ntmps62
 go_wp2
 go_loopw [9] (λi wr=>∃k:Nat,k<=xs.length/\i=zn .i64 k/\wr=w/\Hid (∀j,j<k->xs.getD j 0≠x))
  (λi _=>xs.length-(intOf i).toNat)
 case atStart=>exact⟨0,bH _,rfl,rfl,λj hj=>absurd hj (dP _)⟩
 case round=>
  obtain⟨k,hk,rfl,rfl,HN⟩:=hrel
  by_cases hlt:k<xs.length
  ·obtain⟨b,o,y,rfl,Hn,cQ,c0⟩:=hc.elem (Below.refl _ _) hlt;have fk:(0:Int)<=(k:Int):=by omega
   have cG:(k:Int)<(xs.length:Int):=by omega
   by_cases yQ:y=x
   ·have hb:(y==x)=true:=by simp[yQ]
    have HF:Hid (lg xs x=k):=by
     have e:xs.findIdx (· == x)=k:=by
      rw[List.findIdx_eq hlt];have e1:xs[k]=x:=by have:=Hn.out;rw[bI,bE hlt]at this;simpa [yQ]using this
      refine⟨by simp[e1],λj hj=>?_⟩;have:=HN.out j hj;rw[bI,bE (by omega)]at this
      simpa using this
     show lg xs x=k;unfold lg;rw[e,ae hlt]
    go_wp2;go_ret;exact⟨gq HF.out.symm,by first|rfl|trivial⟩
   ·have hb:(y==x)=false:=by simp[yQ]
    go_wp2
    go_roundw
    case rel=>exact⟨k+1,by omega,by go_num,by first|rfl|trivial,λj hj=>by
     by_cases e:j=k
     ·subst e;rw[Hn.out];exact yQ
     ·exact HN.out j (by omega)⟩
    case measure=>simp[intOf];omega
  ·have HF:Hid (lg xs x=-1):=by
    have h1:lg xs x<0:=zpm.2 λtZ=>by
     obtain⟨j,hj,e⟩:=tu.1 tZ;refine HN.out j (by omega) ?_;rw[bI,bE hj];exact e
    show lg xs x=-1;unfold lg at h1 ⊢;split
    ·rw[ae (by assumption)]at h1;omega
    ·rfl
   go_wp2;go_ret;exact⟨gq HF.out.symm,by first|rfl|trivial⟩
end
section
variable {d:aE}{l:List Nat}{k c:Nat}
def aW(d:aE):Nat:=d.width.toNat
def bU(d:aE)(s c:Nat):Nat:=(d.next.getD (s*aW d+c) 0).toNat
def eH(d:aE)(c:Nat):Nat:=(d.aD.getD c 0).toNat
def ai(d:aE)(s c:Nat):Nat:=bU d s (eH d c)
def au(d:aE)(s:Nat):Int×Int:=(d.tag.getD s 0,d.fin.getD s 0)
theorem cL.wd(h:cL d):d.width=(aW d:Int)/\1<=aW d/\aW d<=256:=by have:=h.w1;have:=h.w2;unfold aW;omega
theorem cL.FY(h:cL d):d.next.length=d.tag.length*aW d:=by
 have h1:=h.nl;rw[h.wd.1]at h1
 exact_mod_cast h1
theorem cL.uh(h:cL d){s c:Nat}(hs:s<d.tag.length)(hc:c<aW d):s*aW d+c<d.next.length:=by
 rw[h.FY];have:=Nat.mul_le_mul_right (aW d) (show s+1<=d.tag.length by omega);rw[zu,Nat.one_mul]at this;omega
theorem cL.nx(h:cL d){s c:Nat}(hs:s<d.tag.length)(hc:c<aW d):d.next.getD (s*aW d+c) 0=(bU d s c:Int)/\bU d s c<d.tag.length:=by
 have k:=xf h.ns (k:=s*aW d+c) (h.uh hs hc);have:=h.n1;unfold bU;omega
theorem cL.sf(h:cL d){c:Nat}(hc:c<256):d.aD.getD c 0=(eH d c:Int)/\eH d c<aW d:=by
 have k:=xf h.cs (k:=c) (by have:=h.cl;omega);have w:=h.wd;unfold eH;omega
theorem cL.LO(h:cL d){s c:Nat}(hs:s<d.tag.length)(hc:c<256):ai d s c<d.tag.length:=(h.nx hs (h.sf hc).2).2
theorem sT:∀(n:Nat) (l:List Nat),l.Nodup->(∀x∈l,x<n)->l.length<=n
 |0,l,_,h=>by
  cases l with
  |nil=>simp
  |cons a l=>exact absurd (h a (by simp)) (dP _)
 |n+1,l,hn,h=>by
  have h1:=sT n (l.erase n) (hn.erase n) (λx hx=>by
   have h2:=h x (List.mem_of_mem_erase hx);have h3:x≠n:=λe=>by subst e;exact(List.Nodup.not_mem_erase hn) hx
   omega)
  by_cases hm:n∈l
  ·rw[List.length_erase_of_mem hm]at h1;omega
  ·rw[List.erase_of_not_mem hm]at h1;omega
structure uM(d:aE)(l:List Nat):Prop where
 pos:0<l.length
 head:l.getD 0 0=0
 nd:l.Nodup
 lt:∀x∈l,x<d.tag.length
 cl:∀x∈l,∀c,c<256->ai d x c∈l
structure r9(d:aE)(l:List Nat)(k c:Nat):Prop where
 pos:0<l.length
 head:l.getD 0 0=0
 nd:l.Nodup
 lt:∀x∈l,x<d.tag.length
 done:∀j,j<k->∀i,i<aW d->(i:Int)∈d.aD->bU d (l.getD j 0) i∈l
 now:∀i,i<c->(i:Int)∈d.aD->bU d (l.getD k 0) i∈l
theorem r9.more{x:Nat}(h:r9 d l k c)(hk:k<l.length)(hx:x<d.tag.length)(hn:x∉l)(e:bU d (l.getD k 0) c=x):r9 d (l++[x]) k (c+1):=by
 have hg:∀j,j<l.length->(l++[x]).getD j 0=l.getD j 0:=λj hj=>vv hj
 refine⟨by simp,by rw[hg 0 h.pos];exact h.head,?_,λy hy=>?_,λj hj i hi hu=>?_,λi hi hu=>?_⟩
 ·rw[Gw];exact⟨h.nd,by simp,λa ha b hb=>by simp at hb;subst hb;exact λe=>hn (e ▸ ha)⟩
 ·rcases gH.1 hy with hy|hy
  ·exact h.lt y hy
  ·simp at hy;omega
 ·rw[hg j (by omega)];exact gH.2 (.inl (h.done j hj i hi hu))
 ·rw[hg k hk]
  by_cases ei:i=c
  ·subst ei;rw[e];simp
  ·exact gH.2 (.inl (h.now i (by omega) hu))
theorem r9.skip(h:r9 d l k c)(hs:(c:Int)∈d.aD->bU d (l.getD k 0) c∈l):r9 d l k (c+1):=
 ⟨h.pos,h.head,h.nd,h.lt,h.done,λi hi hu=>by
  by_cases ei:i=c
  ·subst ei;exact hs hu
  ·exact h.now i (by omega) hu⟩
theorem r9.row(h:r9 d l k c)(hc:aW d<=c):r9 d l (k+1) 0:=
 ⟨h.pos,h.head,h.nd,h.lt,λj hj i hi hu=>by
  by_cases ej:j=k
  ·subst ej;exact h.now i (by omega) hu
  ·exact h.done j (by omega) i hi hu,λi hi=>absurd hi (dP _)⟩
theorem r9.end(hf:cL d)(h:r9 d l k 0)(hk:l.length<=k):uM d l:=
 ⟨h.pos,h.head,h.nd,h.lt,λx hx c hc=>by
  obtain⟨j,hj,e⟩:=tu.1 hx;have:=h.done j (by omega) (eH d c) (hf.sf hc).2 (by
   rw[<-(hf.sf hc).1,bI,bE (by have:=hf.cl;omega)];exact gy _)
  rw[bI,bE hj]at this;simp only[Option.getD_some,e]at this;exact this⟩
theorem zpo(d:aE)(hf:cL d):r9 d [0] 0 0:=
 ⟨by simp,rfl,by simp,λx hx=>by simp at hx;have:=hf.n1;omega,λj hj=>absurd hj (dP _),λi hi=>absurd hi (dP _)⟩
def ReR(w:zp)(d:aE)(e:Ending)(w':zp):Prop:=
 ∃(g cap:Nat) (l:List Nat),e=.returned (zi (za ⟨g,0,zh⟩) l.length cap)/\w'.ownsRow w.heap.size 3 1 (zi (za ⟨g,0,zh⟩) l.length cap) l.length (iY l)/\uM d l/\Below w.heap.size w w'
end
theorem Ge{w:zp}{base Ny:Nat}{e:zx}{size:Nat}{v:zw}{n:Nat}{xs:List zw}(h:w.ownsRow base e size v n xs)(hb:Ny<=base):w.ownsRow Ny e size v n xs:=
 ⟨h.1,h.2.imp id λ⟨g,cap,a9,h1,h2,h3⟩=>⟨g,cap,a9,h1,cM hb h2,h3⟩⟩
def zv6(W0:zp)(d:aE)(k c:Nat)(v:zw)(wr:zp):Prop:=
 ∃(g cap:Nat) (l:List Nat),v=zi (za ⟨g,0,zh⟩) l.length cap/\wr.ownsRow W0.heap.size 3 1 (zi (za ⟨g,0,zh⟩) l.length cap) l.length (iY l)/\r9 d l k c/\Below W0.heap.size W0 wr
theorem zkj{lo:Nat}(cv nv tv ev:zw)(d:aE)(w:zp)(hs:dk lo w cv nv tv ev d)(hf:cL d):
  Calls prog 59 #[.agg #[cv,zn .i64 d.width,nv,tv,ev]] w λe w'=>ReR w d e w':=by
 obtain⟨i0,hi,eQ,eR,dR⟩:=info_parts Try.wP;obtain⟨hw,qD,kJ⟩:=hf.wd;rw[hw];clear hw;have kI:=hs;obtain⟨⟨ca,cc,rfl,cm,cx⟩,⟨na,nc,rfl,nm,nx⟩,⟨ta,tc,rfl,tm,_⟩,⟨ea,ec,rfl,em,_⟩⟩:=hs;have jG:=hf.n1;have fc:=hf.n2;obtain⟨nb,no,rfl,_,nl,nqc⟩:=nx (by rw[hf.FY];exact Nat.mul_pos (by omega) (by omega));obtain⟨W0,ay⟩:∃W0,w.alloc (.cells #[.slice ca d.aD.length cc,zn .i64 (aW d:Int),zi (za ⟨nb,no,zh⟩) d.next.length nc,.slice ta d.tag.length tc,.slice ea d.fin.length ec] 25)=W0:=⟨_,rfl⟩;have aG:Below w.heap.size w W0:=by rw[<-ay];exact aC
 have x0:W0.heap[w.heap.size]?=za (.cells #[.slice ca d.aD.length cc,zn .i64 (aW d:Int),zi (za ⟨nb,no,zh⟩) d.next.length nc,.slice ta d.tag.length tc,.slice ea d.fin.length ec] 25 (0,0)):=by rw[<-ay];exact aU _ _
 have sD:w.heap.size<W0.heap.size:=(gF.1 x0).1;have l7:zv6 W0 d 0 0 (zi (za ⟨W0.heap.size,0,zh⟩) 1 1) (W0.alloc (.cells #[zn .i64 0] 3)):=
  ⟨W0.heap.size,1,[0],rfl,⟨rfl,.inr ⟨_,_,_,rfl,ax _,aU _ _,ax _,by unfold maxLen;omega,rfl,rfl⟩⟩,zpo d hf,aC⟩
 go_enter func59,ntmps59
 go_wp2
 go_loopw [3,4] (λv i wr=>∃k:Nat,i=zn .i64 k/\zv6 W0 d k 0 v wr)
  (λ_ i _=>d.tag.length-(intOf i).toNat)
 case atStart=>first|exact⟨0,rfl,l7⟩|(refine⟨0,rfl,?_⟩;rw[<-ay]at l7 ⊢;simpa using l7)
 case round=>
  obtain⟨k,rfl,g,cap,l,rfl,bV,hR,hb⟩:=hrel;have hlen:=sT _ l hR.nd hR.lt
  by_cases hlt:k<l.length
  ·have fk:(0:Int)<=(k:Int):=by omega
   have cG:(k:Int)<(l.length:Int):=by omega
   go_wp2
   go_loopw [3,5] (λv i wr=>∃(c g cap:Nat) (l:List Nat),c<=aW d/\i=zn .i64 c/\v=zi (za ⟨g,0,zh⟩) l.length cap/\k<l.length/\wr.ownsRow W0.heap.size 3 1 (zi (za ⟨g,0,zh⟩) l.length cap) l.length (iY l)/\Hid (r9 d l k c)/\Below W0.heap.size W0 wr)
    (λ_ i _=>aW d-(intOf i).toNat)
   case atStart=>exact⟨0,g,cap,l,bH _,rfl,rfl,hlt,bV,hR,hb⟩
   case round=>
    clear bV hR hb hlt hlen fk cG;obtain⟨c,g,cap,l,hc,rfl,rfl,hlt,bV,HR,hb⟩:=hrel;have hlen:=sT _ l HR.out.nd HR.out.lt;have fk:(0:Int)<=(k:Int):=by omega
    have cG:(k:Int)<(l.length:Int):=by omega
    have hx:=(hb.block _ sD).trans x0;obtain⟨q0,q1,q2,q3,q4⟩:=bL hx
    by_cases bn:c<aW d
    ·have iU:Below w.heap.size w wr:=aG.trans (hb.mono aG.size);have Zm:l.getD k 0<d.tag.length:=HR.out.lt _ (by rw[bI,bE hlt];exact gy _);have c1:=bV.cellAt k (by omega);rw[Mh l hlt]at c1;have iD:=hf.nx Zm bn;have c2:=(iU.cell (p:=⟨nb,no+(l.getD k 0*aW d+c),zh⟩) nl).trans (nqc _ (hf.uh Zm bn));rw[iD.1]at c2;have dz:=PN _ d.aD c wr (kI.aD.below iU);have Lk:=hf.uh Zm bn;have hmul:l.getD k 0*aW d<=4000*256:=nt (by omega) kJ;have zxM:∀W:zp,W.ownsRow W0.heap.size 3 1 (zi (za ⟨g,0,zh⟩) l.length cap) l.length (iY l)->Calls prog 62 #[zi (za ⟨g,0,zh⟩) l.length cap,zn .i64 (bU d (l.getD k 0) c)] W λe w'=>e=.returned (zn .i64 (lg (aO l) (bU d (l.getD k 0) c)))/\w'=W:=λW hW=>PN _ (aO l) _ W (zmI hW (by omega))
     have Rc:Hid (lg (aO l) (bU d (l.getD k 0) c)<0↔bU d (l.getD k 0) c∉l):=by
      show _↔_;rw[zpm];unfold aO;rw[rS];exact⟨λh hm=>h ⟨_,hm,rfl⟩,λh ⟨x,hx,e⟩=>h (by have e2:x=bU d (l.getD k 0) c:=(by omega);exact e2 ▸ hx)⟩
     have Hsk:Hid (((c:Int)∈d.aD->bU d (l.getD k 0) c∈l)->r9 d l k (c+1)):=λh=>HR.out.skip h
     have Hmo:Hid (bU d (l.getD k 0) c∉l->r9 d (l++[bU d (l.getD k 0) c]) k (c+1)):=λh=>HR.out.more hlt iD.2 h rfl
     have Ri:Hid (0<=lg d.aD c↔(c:Int)∈d.aD):=zlP;generalize bU d (l.getD k 0) c=y at *;generalize l.getD k 0=s0 at *;generalize lg d.aD (c:Int)=pu at *;generalize lg (aO l) (y:Int)=pv at *;have Dp:(0:Int)<=(s0:Int)*(aW d:Int):=Bd (by omega) (by omega);have pR:(s0:Int)*(aW d:Int)<=1024000:=by have:((s0*aW d:Nat):Int)<=((4000*256:Nat):Int):=(by exact_mod_cast hmul);simpa using this
     have rq:((s0:Int)*(aW d:Int)+(c:Int))=((s0*aW d+c:Nat):Int):=by simp
     have e8:(s0:Int)*(aW d:Int)+(c:Int)<(d.next.length:Int):=by rw[rq];exact_mod_cast Lk
     have AJ:((s0:Int)*(aW d:Int)+(c:Int)).toNat=s0*aW d+c:=by rw[rq];exact uA _
     rw[<-AJ]at c2;have gz:0<=(s0:Int)*(aW d:Int)+(c:Int):=by omega
     have pZ:(s0:Int)*(aW d:Int)+(c:Int)<=2000000:=by omega
     clear AJ rq Lk hmul iD;obtain⟨P,hP⟩:∃P,(s0:Int)*(aW d:Int)=P:=⟨_,rfl⟩;rw[hP]at Dp pR e8 c2 gz pZ;have oy:(c:Int)<(aW d:Int):=by omega
     have hB:=hb.size
     by_cases hu:0<=pu
     ·by_cases hv:pv<0
      ·go_wp2_with (go_at_call 62;refine dz.mono ?_;rintro e w' ⟨rfl,hw'⟩;subst w')
       go_quiet (fail)
       have Fo:Below wr.heap.size wr (wr.drewN nq):=below_drewN (Below.refl _ _) nq;have rA:=jy bV Fo;have Zc:=zxM _ rA
       go_wp2_with (first|(go_at_call 62;refine Zc.mono ?_;rintro e w' ⟨rfl,hw'⟩;subst w')|(refine AZ (wr.drewN nq) _ rfl rfl (.tmp 46) (.tmp 48) 23 rfl W0.heap.size 3 i0 (zn .i64 0) 8 underlying23 hi eQ eR dR rfl g cap l.length (iY l) (zn .i64 (y:Int)) rfl rA rfl rfl (by omega) (by omega) hB ?_;intro g' cap' w5 pW Fx eY))
       go_roundw
       case rel=>exact⟨c+1,g',cap',l++[y],by omega,by go_num,by simp,by simp;omega,by rw[zkn];simpa using pW,Hmo.out (Rc.out.1 (by omega)),(hb.trans (Fo.mono hB)).grown Fx hB (λq hq=>by cases hq;exact(nW bV).1)⟩
       case measure=>simp[intOf];omega
      ·go_wp2_with (go_at_call 62;refine dz.mono ?_;rintro e w' ⟨rfl,hw'⟩;subst w')
       go_quiet (fail)
       have Fo:Below wr.heap.size wr (wr.drewN nq):=below_drewN (Below.refl _ _) nq;have rA:=jy bV Fo;have Zc:=zxM _ rA
       go_wp2_with (go_at_call 62;refine Zc.mono ?_;rintro e w' ⟨rfl,hw'⟩;subst w')
       go_roundw
       case rel=>exact⟨c+1,g,cap,l,by omega,by go_num,rfl,hlt,rA,Hsk.out (λ_=>by
        by_cases e:y∈l
        ·exact e
        ·exact absurd (Rc.out.2 e) (by omega)),hb.trans (Fo.mono hB)⟩
       case measure=>simp[intOf];omega
     ·go_wp2_with (go_at_call 62;refine dz.mono ?_;rintro e w' ⟨rfl,hw'⟩;subst w')
      go_quiet (fail)
      have Fo:Below wr.heap.size wr (wr.drewN nq):=below_drewN (Below.refl _ _) nq;have rA:=jy bV Fo;go_wp2
      go_roundw
      case rel=>exact⟨c+1,g,cap,l,by omega,by go_num,rfl,hlt,rA,Hsk.out (λe=>absurd (Ri.out.2 e) (by omega)),hb.trans (Fo.mono hB)⟩
      case measure=>simp[intOf];omega
    ·go_wp2
     go_roundw
     case rel=>exact⟨k+1,by go_num,g,cap,l,rfl,bV,HR.out.row (by omega),hb⟩
     case measure=>simp[intOf];omega
  ·have lK:=hR.end hf (by omega);have iU:Below w.heap.size w wr:=aG.trans (hb.mono aG.size);go_wp2;refine bw (v:=zi (za ⟨g,0,zh⟩) l.length cap) (by simp[results,results59,go_sem]) rfl ⟨g,cap,l,rfl,Ge bV (by omega),lK,iU⟩
section
variable {x:Nat}{m:Nat -> Nat -> Bool}{l:List Nat}{d:aE}
def nQ(m:Nat->Nat->Bool)(x y:Nat):Nat->Nat->Bool:=λa b=>if a=x/\b=y then true else m a b
def zm(n:Nat)(m:Nat->Nat->Bool):Nat:=((List.range n).map λx=>((List.range n).filter λy=>!m x y).length).sum
theorem zib(m:Nat->Nat->Bool)(x y:Nat):∀n,y<n->m x y=false->((List.range n).filter λb=>!nQ m x y x b).length+1=((List.range n).filter λb=>!m x b).length
 |0,h,_=>absurd h (dP _)
 |n+1,h,hm=>by
  rw[oN,JQ,JQ,a6,a6]
  by_cases e:y=n
  ·subst e;have h1:((List.range y).filter λb=>!nQ m x y x b)=(List.range y).filter λb=>!m x b:=List.filter_congr λb hb=>by
    have:b<y:=by simpa using hb
    unfold nQ;rw[ab (by omega)]
   rw[h1];simp[nQ,hm]
  ·have ih:=zib m x y n (by omega) hm;have h1:([n].filter λb=>!nQ m x y x b)=[n].filter λb=>!m x b:=List.filter_congr λb hb=>by
    simp at hb;unfold nQ;rw[ab (by omega)]
   rw[h1];omega
theorem zpT{f g:Nat->Nat}(hne:∀a,a≠x->f a=g a)(hx:f x+1=g x):∀n,x<n->((List.range n).map f).sum+1=((List.range n).map g).sum
 |0,h=>absurd h (dP _)
 |n+1,h=>by
  rw[oN,rR,rR,List.sum_append,List.sum_append]
  by_cases e:x=n
  ·subst e;have:(List.range x).map f=(List.range x).map g:=uB λa ha=>hne a (by have:a<x:=(by simpa using ha);omega)
   rw[this];simp only[Be,List.map_nil,List.sum_cons,List.sum_nil];omega
  ·have ih:=zpT hne hx n (by omega);have:=hne n (λe2=>e e2.symm);simp only[Be,List.map_nil,List.sum_cons,List.sum_nil];omega
theorem zmS{n y:Nat}(hx:x<n)(hy:y<n)(hm:m x y=false):zm n (nQ m x y)+1=zm n m:=by
 unfold zm;refine zpT (x:=x) (λa ha=>?_) (zib m x y n hy hm) n hx;have:((List.range n).filter λb=>!nQ m x y a b)=(List.range n).filter λb=>!m a b:=List.filter_congr λb _=>by
  unfold nQ;rw[ab (λe=>ha e.1)]
 rw[this]
structure Es(d:aE)(l:List Nat)(m:Nat->Nat->Bool):Prop where
 snd:∀x y,x<l.length->y<l.length->m x y=true->¬cD (ai d) (au d) (l.getD x 0) (l.getD y 0)
 base:∀x y,x<l.length->y<l.length->au d (l.getD x 0)≠au d (l.getD y 0)->m x y=true
theorem Gi(hx:x∈l):∃i,i<l.length/\l.getD i 0=x:=by
 obtain⟨i,hi,e⟩:=tu.1 hx;exact⟨i,hi,by rw[bI,bE hi];exact e⟩
theorem TG(h:l.Nodup){i j:Nat}(hi:i<l.length)(hj:j<l.length)(e:l.getD i 0=l.getD j 0):i=j:=by
 rw[bI,bE hi,bI,bE hj]at e;have hp:=List.pairwise_iff_getElem.1 h;simp only[Option.getD_some]at e;rcases Nat.lt_trichotomy i j with k|k|k
 ·exact absurd e (hp i j hi hj k)
 ·exact k
 ·exact absurd e.symm (hp j i hj hi k)
theorem zn7(hf:cL d){l:List Nat}(hR:uM d l){m:Nat->Nat->Bool}(hA:Es d l m)
  (hc:∀x y,x<l.length->y<l.length->m x y=false->∀c,c<aW d->(c:Int)∈d.aD->∀tx ty,tx<l.length->ty<l.length->l.getD tx 0=bU d (l.getD x 0) c->l.getD ty 0=bU d (l.getD y 0) c->m tx ty=false)
  {x y:Nat} (hx:x<l.length) (hy:y<l.length):m x y=false↔cD (ai d) (au d) (l.getD x 0) (l.getD y 0):=by
 constructor
 ·intro h;refine ziT (λs t=>∃x y,x<l.length/\y<l.length/\l.getD x 0=s/\l.getD y 0=t/\m x y=false) ?_ ?_ ⟨x,y,hx,hy,rfl,rfl,h⟩
  ·rintro s t ⟨x,y,hx,hy,rfl,rfl,h⟩
   by_cases e:au d (l.getD x 0)=au d (l.getD y 0)
   ·exact e
   ·have:=hA.base x y hx hy e;rw[h]at this;cases this
  ·rintro s t c ⟨x,y,hx,hy,rfl,rfl,h⟩ hcc;have mx:l.getD x 0∈l:=by rw[bI,bE hx];exact gy _
   have my:l.getD y 0∈l:=by rw[bI,bE hy];exact gy _
   obtain⟨tx,vh,ex⟩:=Gi (hR.cl _ mx c hcc);obtain⟨ty,FL,ey⟩:=Gi (hR.cl _ my c hcc);refine⟨tx,ty,vh,FL,ex,ey,hc x y hx hy h (eH d c) (hf.sf hcc).2 ?_ tx ty vh FL ex ey⟩;rw[<-(hf.sf hcc).1,bI,bE (by have:=hf.cl;omega)];exact gy _
 ·intro h;cases e:m x y
  ·rfl
  ·exact absurd h (hA.snd x y hx hy e)
theorem Es.put(h:Es d l m){x y tx ty c:Nat}(vh:tx<l.length)(FL:ty<l.length)(ex:l.getD tx 0=ai d (l.getD x 0) c)(ey:l.getD ty 0=ai d (l.getD y 0) c)(hc:c<256)(ht:m tx ty=true):Es d l (nQ m x y):=
 ⟨λa b ha hb e=>by
  unfold nQ at e;split at e
  ·rename_i k
   obtain⟨rfl,rfl⟩:=k;intro al;have:=al.step hc;rw[<-ex,<-ey]at this;exact h.snd tx ty vh FL ht this
  ·exact h.snd a b ha hb e,λa b ha hb e=>by
  unfold nQ;split
  ·rfl
  ·exact h.base a b ha hb e⟩
end
def Kl(l zs:List Nat)(n k:Nat):Prop:=zs.length=n/\∀j,j<k->zs.getD (l.getD j 0) 0=j
theorem Kl.next{l zs:List Nat}{n k:Nat}(h:Kl l zs n k)(hn:l.Nodup)(hk:k<l.length)(hl:l.getD k 0<n):Kl l (zs.set (l.getD k 0) k) n (k+1):=by
 refine⟨by simp[h.1],λj hj=>?_⟩;have h1:=h.1
 by_cases e:j=k
 ·subst e;rw[bI,List.getElem?_set_self (by omega)]
  rfl
 ·have hne:l.getD k 0≠l.getD j 0:=λe2=>e (TG hn hk (by omega) e2).symm
  rw[bI,List.getElem?_set_ne hne,<-bI];exact h.2 j (by omega)
def eC(d:aE)(c:Nat):List Nat:=(List.range c).filter λi=>decide ((i:Int)∈d.aD)
theorem zn0(d:aE)(c:Nat):eC d (c+1)=if (c:Int)∈d.aD then eC d c++[c] else eC d c:=by
 unfold eC;rw[oN,JQ]
 by_cases h:(c:Int)∈d.aD
 ·rw[ae h];simp[h]
 ·rw[ab h];simp[h]
theorem vx{d:aE}{c i:Nat}:i∈eC d c↔i<c/\(i:Int)∈d.aD:=by simp[eC]
theorem zk1(d:aE)(c:Nat):(eC d c).length<=c:=by
 have:=List.length_filter_le (λi:Nat=>decide ((i:Int)∈d.aD)) (List.range c)
 simpa [eC]using this
theorem PZ(n:Nat):(madeCells (Value.int .i64 0).cells (n*1)).toList=iY (List.replicate n 0):=by
 apply tz
 intro i
 by_cases h:i<n
 ·simp[madeCells,iY,Value.cells,Nat.mod_one,h]
 ·simp[madeCells,iY,h]
variable {gr:Nat -> Nat}{n k base B:Nat}{w:zp}{v:zw}{xs:List zw}{m:Nat -> Nat -> Bool}
def gu(n:Nat)(f:Nat->Bool):Array zw:=((List.range n).map λi=>Value.bool (f i)).toArray
theorem Gb(n:Nat)(f:Nat->Bool){i:Nat}(h:i<n):(gu n f)[i]?=za (.bool (f i)):=by simp[gu,h]
theorem TK(n:Nat)(f:Nat->Bool)(i:Nat)(b:Bool):(gu n f).setIfInBounds i (.bool b)=gu n (λj=>if j=i then b else f j):=by
 apply Gu
 intro j;rw[Qw];have hs:(gu n f).size=n:=by simp[gu]
 have h1:∀g:Nat->Bool,¬j<n->(gu n g)[j]?=zh:=λg hj=>zr (by simp[gu];omega)
 by_cases h:j<n
 ·by_cases e:i=j
  ·subst e;rw[ae rfl,hs,ae h,Gb n _ h];simp
  ·rw[ab e,Gb n f h,Gb n _ h];simp;intro k;exact absurd k.symm e
 ·rw[h1 _ h,h1 _ h]
  by_cases e:i=j
  ·subst e;rw[ae rfl,hs,ab h]
  ·rw[ab e]
def B7(gr:Nat->Nat)(n k:Nat):List zw:=(List.range k).map λx=>zi (za ⟨gr x,0,zh⟩) n n
theorem zpO(gr:Nat->Nat)(n k:Nat):B7 gr n (k+1)=B7 gr n k++[zi (za ⟨gr k,0,zh⟩) n n]:=by simp[B7,List.range_succ]
theorem znY{gr':Nat->Nat}(h:∀x,x<k->gr x=gr' x):B7 gr n k=B7 gr' n k:=uB λx hx=>by rw[h x (by simpa using hx)]
theorem er{a b:Array zw}{t u:zx}{f g:Nat×Nat}(h:za (Obj.cells a t f)=za (Obj.cells b u g)):t=u:=by
 injection h with h
 injection h
theorem oI{W:zp}{e:zx}{sz:Nat}(h:w.ownsRow base e sz v n xs)(hk:∀(k:Nat) (cs:Array zw),w.heap[k]?=za (.cells cs e (0,0))->W.heap[k]?=za (.cells cs e (0,0))):W.ownsRow base e sz v n xs:=by
 refine⟨h.1,?_⟩;rcases h.2 with h0|⟨g,cap,a9,hv,hg,hh,r⟩
 ·exact .inl h0
 ·exact .inr ⟨g,cap,a9,hv,hg,hk g a9 hh,r⟩
theorem oK(W:zp)(b j:Nat)(v:zw):W.grownBy (W.setCell ⟨b,j,zh⟩ v) (za b):=
 ⟨rfl,rfl,rfl,by simp[World.setCell],λk _ hk=>Below.heap_setCell _ _ _ _ (λe=>hk (by rw[e]))⟩
structure iH(B:Nat)(w:zp)(n k:Nat)(v:zw)(gr:Nat->Nat)(m:Nat->Nat->Bool):Prop where
 out:w.ownsRow B 37 1 v k (B7 gr n k)
 rows:∀x,x<k->w.heap[gr x]?=za (.cells (gu n (m x)) 4 (0,0))
 base:∀x,x<k->B<=gr x
 inj:∀x y,x<k->y<k->gr x=gr y->x=y
theorem iH.below{w':zp}(h:iH B w n k v gr m)(hb:Below w.heap.size w w'):iH B w' n k v gr m:=
 ⟨jy h.out hb,λx hx=>(hb.block _ (gF.1 (h.rows x hx)).1).trans (h.rows x hx),h.base,h.inj⟩
theorem iH.cell(h:iH B w n k v gr m){x y:Nat}(hx:x<k)(hy:y<n):w.cell? ⟨gr x,y,zh⟩=za (.bool (m x y))/\w.frozen? ⟨gr x,y,zh⟩=false:=by
 have r:=h.rows x hx;exact⟨by rw[dt _ _ _ _ _ _ r,Gb n _ hy],aR _ _ y _ _ r⟩
theorem iH.outer(h:iH B w n k v gr m)(hk:0<k):∃g cap,v=zi (za ⟨g,0,zh⟩) k cap/\B<=g/\g<w.heap.size/\∀x,x<k->w.cell? ⟨g,x,zh⟩=za (zi (za ⟨gr x,0,zh⟩) n n):=by
 rcases h.out.2 with ⟨_,h0⟩|⟨g,cap,a9,hv,hg,hh,ry,_,hsz,ht⟩
 ·omega
 ·refine⟨g,cap,hv,hg,(gF.1 hh).1,λx hx=>?_⟩;rw[dt _ _ _ _ _ _ hh];have:(B7 gr n k)[x]?=a9[x]?:=by rw[<-ht,List.getElem?_take,ae (by omega),Array.getElem?_toList]
  rw[<-this];simp[B7,hx]
theorem iH.put(h:iH B w n k v gr m){x:Nat}(hx:x<k)(y:Nat):iH B (w.setCell ⟨gr x,y,zh⟩ (.bool true)) n k v gr (nQ m x y):=by
 have r:=h.rows x hx;have hg:=oK w (gr x) y (.bool true);refine⟨oI h.out λq cs e=>(hg.block q (gF.1 e).1 (λe2=>?_)).trans e,λa ha=>?_,h.base,h.inj⟩
 ·cases e2
  rw[r]at e;exact absurd (er e) (by decide)
 ·by_cases e:a=x
  ·subst e;have:=dx w (gr a) y _ _ (.bool true) r;rw[TK]at this;rw[this]
   congr 3
   funext j
   unfold nQ
   by_cases ej:j=y
   ·rw[ae ej,ae ⟨rfl,ej⟩]
   ·rw[ab ej,ab (λk=>ej k.2)]
  ·have hne:za (gr a)≠za (gr x):=λe2=>e (h.inj a x ha hx (Option.some.inj e2))
   rw[hg.block _ (gF.1 (h.rows a ha)).1 hne,h.rows a ha]
   congr 3
   funext j
   unfold nQ;rw[ab (λk=>e k.1)]
theorem Try.zyd:(prog.info? 4).map (λi=>(i.zero,i.size,i.bytes))=za (za (.bool false),1,1):=by kernel_rfl
theorem Try.zBa:(prog.info? 37).map (λi=>(i.zero,i.size,i.bytes))=za (za (zi zh 0 0),1,24):=by kernel_rfl
theorem zhc(n:Nat):(madeCells (Value.bool false).cells (n*1)).toList.toArray=gu n (λ_=>false):=by
 apply Gu
 intro i
 by_cases h:i<n
 ·simp[madeCells,gu,Value.cells,Nat.mod_one,h]
 ·simp[madeCells,gu,h]
theorem zkz{e:zx}{g:Nat}(h:w.ownsRow base e 1 (zi (za ⟨g,0,zh⟩) n n) n xs):w.heap[g]?=za (.cells xs.toArray e (0,0)):=by
 rcases h.2 with ⟨h,_⟩|⟨g',cap,cr,h,_,ff,_,_,hsz,jH⟩
 ·cases h
 ·cases h
  rw[ff]
  congr 2
  apply Array.ext'
  rw[tj (by simp[hsz])]at jH;rw[jH]
def tK(d:aE)(l:List Nat)(x y:Nat):Bool:=!(d.tag.getD (l.getD x 0) 0==d.tag.getD (l.getD y 0) 0) || !(d.fin.getD (l.getD x 0) 0==d.fin.getD (l.getD y 0) 0)
theorem zm5(d:aE)(l:List Nat):Es d l (tK d l):=
 ⟨λx y _ _ e al=>by
  have h:=al.an;unfold au at h;unfold tK at e;injection h with h1 h2
  rw[h1,h2]at e;simp at e,λx y _ _ e=>by
  unfold tK
  by_cases h1:d.tag.getD (l.getD x 0) 0=d.tag.getD (l.getD y 0) 0
  ·by_cases h2:d.fin.getD (l.getD x 0) 0=d.fin.getD (l.getD y 0) 0
   ·exact absurd (by unfold au;rw[h1,h2]) e
   ·rw[lX.2 h2];simp
  ·rw[lX.2 h1];simp⟩
end Go.Proofs.Ytfajjdgkiilhfaa
