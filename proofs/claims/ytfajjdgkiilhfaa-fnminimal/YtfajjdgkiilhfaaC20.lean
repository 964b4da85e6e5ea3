import Derived.Test.YtfajjdgkiilhfaaC19
import Derived.Deep.RegionLaw
import Derived.Deep.RegionHeld3
import Derived.Deep.DrawnRows
namespace Go.Proofs.Ytfajjdgkiilhfaa
open Proofs.Try
open Option renaming none->za,some->zh
open Value renaming slice->zi,int->zn,agg->zB,pointer->zF
open Go renaming World->zp,Value->zx,TypeId->zD,Calls->zG
open Obj renaming cells->zw
open RowKit renaming Below->zy
set_option maxHeartbeats 2000000
set_option maxRecDepth 100000
open Go.RowKit
attribute [local go_sem ↓] wp_at_zero wp_at_succ
section
variable {Ns Ms Ls:List bO}{T a b U:GT}{lo hi m l k r j p:Nat}{sv nv bv:zx}{w0 w W:zp}{M N:GA}
def o8(c:Nat)(mn mx:Int):Nat:=if mx=-1 then mn.toNat*(c+1)+(c+1) else mn.toNat*(c+1)+(mx-mn).toNat*(c+3)+1
def eI:Pt->Nat
 |.set _=>1
 |.seq l r=>eI l+eI r+1
 |.eA l r=>eI l+eI r+1
 |.jX b mn mx=>o8 (eI b) mn mx
 |.aH b _=>eI b
structure ky(Ns:List bO)(T:GT)(lo hi:Nat):Prop where
 AW:∀i,i<T.ga.n->lo<=T.at i/\T.at i<hi
 inj:∀i j,i<T.ga.n->j<T.ga.n->T.at i=T.at j->i=j
 all:∀(x:Nat) (d:bO),lo<=x->x<hi->Ns[x]?=zh d->(d.k=115/\∃i,i<T.ga.n/\T.at i=x)\/(d.k≠115/\d.k<256/\d.sv=zi za 0 0)
theorem ky.more(h:ky Ns T lo hi)(Ms:List bO)(hl:hi<=Ns.length):ky (Ns++Ms) T lo hi:=
 ⟨h.AW,h.inj,λx d h1 h2 h3=>h.all x d h1 h2 (by rw[rU (by omega)]at h3;exact h3)⟩
theorem ky.leaf{f:Nat->Bool}(hx:Ns[lo]?=zh ⟨115,0,0,sv⟩):ky Ns (.s lo f) lo (lo+1):=by
 refine⟨λi hi=>?_,λi j hi hj _=>?_,λx d h1 h2 h3=>?_⟩
 ·have hi:i<1:=hi;obtain rfl:i=0:=by omega
  exact⟨ax _,GB _⟩
 ·have hi:i<1:=hi;have hj:j<1:=hj;omega
 ·obtain rfl:x=lo:=by omega
  rw[hx]at h3;cases h3;exact .inl ⟨rfl,0,Nat.zero_lt_one,rfl⟩
theorem ky.F6(hx:Ns[lo]?=zh ⟨101,0,0,zi za 0 0⟩):ky Ns .e lo (lo+1):=by
 refine⟨λi hi=>absurd hi (by simp[GT.ga,GA.yo]),λi j hi=>absurd hi (by simp[GT.ga,GA.yo]),λx d h1 h2 h3=>?_⟩;obtain rfl:x=lo:=by omega
 rw[hx]at h3;cases h3;exact .inr ⟨by decide,by decide,rfl⟩
theorem ky.star(h:ky Ns a lo m)(hx:Ns[m]?=zh ⟨42,l,0,zi za 0 0⟩):ky Ns (.st a) lo (m+1):=by
 refine⟨λi hi=>?_,h.inj,λx d h1 h2 h3=>?_⟩
 ·have:=h.AW i hi;exact⟨this.1,Nat.lt_succ_of_lt this.2⟩
 ·rcases jP x m with q|q
  ·exact h.all x d h1 q h3
  ·obtain rfl:x=m:=by omega
   rw[hx]at h3;cases h3;exact .inr ⟨by show (42:Nat)≠115;decide,by show (42:Nat)<256;decide,rfl⟩
theorem zrQ(hn:T.ga.n=a.ga.n+b.ga.n)(hL:T.cR=a.cR++b.cR)(ha:ky Ns a lo m)(hb:ky Ns b m hi)(hk:k≠115)(bJ:k<256)(oC:lo<=m)(SS:m<=hi)(hx:Ns[hi]?=zh ⟨k,l,r,zi za 0 0⟩):ky Ns T lo (hi+1):=by
 have qs:∀i,i<a.ga.n->T.at i=a.at i:=λi h=>by unfold GT.at;rw[hL];exact xC h
 have kC:∀i,T.at (a.ga.n+i)=b.at i:=λi=>by unfold GT.at;rw[hL];exact Ba i
 refine⟨λi qy=>?_,λi j qy hj' he=>?_,λx d h1 h2 h3=>?_⟩
 ·rcases Jw a.ga.n i with h|⟨t,rfl⟩
  ·rw[qs i h];have:=ha.AW i h;omega
  ·rw[kC];have:=hb.AW t (by omega);omega
 ·rcases Jw a.ga.n i with h|⟨t,rfl⟩<;>rcases Jw a.ga.n j with h'|⟨t',rfl⟩
  ·rw[qs i h,qs j h']at he;exact ha.inj i j h h' he
  ·rw[qs i h,kC]at he;have:=ha.AW i h;have:=hb.AW t' (by omega);omega
  ·rw[kC,qs j h']at he;have:=ha.AW j h';have:=hb.AW t (by omega);omega
  ·rw[kC,kC]at he;have:=hb.inj t t' (by omega) (by omega) he;omega
 ·rcases jP x m with q|q
  ·rcases ha.all x d h1 q h3 with ⟨e,i,cG,fA⟩|e
   ·exact .inl ⟨e,i,by omega,by rw[qs i cG];exact fA⟩
   ·exact .inr e
  ·rcases jP x hi with q2|q2
   ·rcases hb.all x d q q2 h3 with ⟨e,i,cG,fA⟩|e
    ·exact .inl ⟨e,a.ga.n+i,by omega,by rw[kC];exact fA⟩
    ·exact .inr e
   ·obtain rfl:x=hi:=by omega
    rw[hx]at h3;cases h3;exact .inr ⟨hk,bJ,rfl⟩
theorem ky.seq(ha:ky Ns a lo m)(hb:ky Ns b m hi)(oC:lo<=m)(SS:m<=hi)(hx:Ns[hi]?=zh ⟨113,l,r,zi za 0 0⟩):ky Ns (.q a b) lo (hi+1):=zrQ rfl rfl ha hb (by decide) (by decide) oC SS hx
theorem ky.eA(ha:ky Ns a lo m)(hb:ky Ns b m hi)(oC:lo<=m)(SS:m<=hi)(hx:Ns[hi]?=zh ⟨111,l,r,zi za 0 0⟩):ky Ns (.o a b) lo (hi+1):=zrQ rfl rfl ha hb (by decide) (by decide) oC SS hx
structure j8(w0:zp)(Ns Ms:List bO)(M:GA)(k:Nat)(T:GT):Prop where
 at_:mC w0 (Ns++Ms) T (Ns.length+Ms.length-1)
 ga:T.ga=M
 lb:ky (Ns++Ms) T Ns.length (Ns.length+Ms.length)
 len:Ms.length=k
 pos:0<k
theorem ze(l:List bO)(d:bO):(l++[d]).length=l.length+1:=by simp
theorem zoJ(Ns Ms:List bO)(d:bO):(Ns++(Ms++[d]))[Ns.length+Ms.length]?=zh d:=by
 rw[<-jA,vH (by simp)];simp
theorem j8.leaf{rs:List (Int×Int)}(hr:nk 0 w0 sv rs):j8 w0 Ns [⟨115,0,0,sv⟩] (.one (tR rs)) 1 (.s Ns.length (tR rs)):=by
 have hx:(Ns++[(⟨115,0,0,sv⟩:bO)])[Ns.length]?=zh ⟨115,0,0,sv⟩:=by simp
 exact⟨⟨by simp,sv,rs,by simp,hr,λ_=>rfl⟩,rfl,ky.leaf hx,rfl,Nat.zero_lt_one⟩
theorem j8.F6:j8 w0 Ns [⟨101,0,0,zi za 0 0⟩] (.yo true) 1 .e:=by
 have hx:(Ns++[(⟨101,0,0,zi za 0 0⟩:bO)])[Ns.length]?=zh ⟨101,0,0,zi za 0 0⟩:=by simp
 refine⟨?_,rfl,ky.F6 hx,rfl,Nat.zero_lt_one⟩;show (Ns++[_])[Ns.length+1-1]?=_;simp
theorem j8.star(h:j8 w0 Ns Ms M k T):j8 w0 Ns (Ms++[⟨42,Ns.length+Ms.length-1,0,zi za 0 0⟩]) M.star (k+1) (.st T):=by
 have hx:=zoJ Ns Ms ⟨42,Ns.length+Ms.length-1,0,zi za 0 0⟩;have hm:mC w0 (Ns++(Ms++[(⟨42,Ns.length+Ms.length-1,0,zi za 0 0⟩:bO)])) T (Ns.length+Ms.length-1):=by rw[<-jA];exact h.at_.more _
 have hb:ky (Ns++(Ms++[(⟨42,Ns.length+Ms.length-1,0,zi za 0 0⟩:bO)])) T Ns.length (Ns.length+Ms.length):=by rw[<-jA];exact h.lb.more _ (by simp)
 refine⟨⟨_,?_,hm⟩,by show T.ga.star=_;rw[h.ga],?_,by simp[h.len],by omega⟩
 ·rw[show Ns.length+(Ms++[(⟨42,Ns.length+Ms.length-1,0,zi za 0 0⟩:bO)]).length-1=Ns.length+Ms.length by simp];exact hx
 ·rw[show Ns.length+(Ms++[(⟨42,Ns.length+Ms.length-1,0,zi za 0 0⟩:bO)]).length=Ns.length+Ms.length+1 by simp;omega];exact hb.star hx
theorem zqe(h:j8 w0 Ns Ms M k T)(g:j8 w0 (Ns++Ms) Ls N j U)(d:bO):
  (Ns++(Ms++Ls++[d]))[Ns.length+(Ms++Ls).length]?=zh d/\mC w0 (Ns++(Ms++Ls++[d])) T (Ns.length+Ms.length-1)/\mC w0 (Ns++(Ms++Ls++[d])) U ((Ns++Ms).length+Ls.length-1)/\
   ky (Ns++(Ms++Ls++[d])) T Ns.length (Ns.length+Ms.length)/\ky (Ns++(Ms++Ls++[d])) U (Ns.length+Ms.length) (Ns.length+(Ms++Ls).length):=by
 have e:Ns++(Ms++Ls++[d])=((Ns++Ms)++Ls)++[d]:=by simp
 have e2:Ns++(Ms++Ls++[d])=(Ns++Ms)++(Ls++[d]):=by simp
 refine⟨zoJ Ns (Ms++Ls) d,?_,?_,?_,?_⟩
 ·rw[e2];exact h.at_.more _
 ·rw[e];exact g.at_.more _
 ·rw[e2];exact h.lb.more _ (by simp)
 ·have:=g.lb.more [d] (by simp;omega);rw[e];rw[a6,<-Cv];rw[a6]at this;exact this
theorem j8.seq(h:j8 w0 Ns Ms M k T)(g:j8 w0 (Ns++Ms) Ls N j U):j8 w0 Ns (Ms++Ls++[⟨113,Ns.length+Ms.length-1,(Ns++Ms).length+Ls.length-1,zi za 0 0⟩]) (M.seq N) (k+j+1) (.q T U):=by
 obtain⟨hx,h1,h2,h3,h4⟩:=zqe h g ⟨113,Ns.length+Ms.length-1,(Ns++Ms).length+Ls.length-1,zi za 0 0⟩;refine⟨⟨_,_,?_,h1,h2⟩,by show T.ga.seq U.ga=_;rw[h.ga,g.ga],?_,by rw[a6,a6,h.len,g.len];rfl,by omega⟩
 ·rw[show Ns.length+(Ms++Ls++[(⟨113,Ns.length+Ms.length-1,(Ns++Ms).length+Ls.length-1,zi za 0 0⟩:bO)]).length-1=Ns.length+(Ms++Ls).length by rw[ze];rfl];exact hx
 ·rw[show Ns.length+(Ms++Ls++[(⟨113,Ns.length+Ms.length-1,(Ns++Ms).length+Ls.length-1,zi za 0 0⟩:bO)]).length=Ns.length+(Ms++Ls).length+1 by rw[ze];rfl];exact h3.seq h4 (by omega) (by simp) hx
theorem j8.eA(h:j8 w0 Ns Ms M k T)(g:j8 w0 (Ns++Ms) Ls N j U):j8 w0 Ns (Ms++Ls++[⟨111,Ns.length+Ms.length-1,(Ns++Ms).length+Ls.length-1,zi za 0 0⟩]) (M.eA N) (k+j+1) (.o T U):=by
 obtain⟨hx,h1,h2,h3,h4⟩:=zqe h g ⟨111,Ns.length+Ms.length-1,(Ns++Ms).length+Ls.length-1,zi za 0 0⟩;refine⟨⟨_,_,?_,h1,h2⟩,by show T.ga.eA U.ga=_;rw[h.ga,g.ga],?_,by rw[a6,a6,h.len,g.len];rfl,by omega⟩
 ·rw[show Ns.length+(Ms++Ls++[(⟨111,Ns.length+Ms.length-1,(Ns++Ms).length+Ls.length-1,zi za 0 0⟩:bO)]).length-1=Ns.length+(Ms++Ls).length by rw[ze];rfl];exact hx
 ·rw[show Ns.length+(Ms++Ls++[(⟨111,Ns.length+Ms.length-1,(Ns++Ms).length+Ls.length-1,zi za 0 0⟩:bO)]).length=Ns.length+(Ms++Ls).length+1 by rw[ze];rfl];exact h3.eA h4 (by omega) (by simp) hx
def FZ(Ns:List bO):List zx:=Ns.flatMap Pg
theorem zq7(Ns:List bO)(d:bO):FZ (Ns++[d])=FZ Ns++Pg d:=by simp[FZ]
structure j9(p:Nat)(W:zp)(nv bv:zx)(Ns:List bO):Prop where
 box:W.heap[p]?=zh (zw #[nv,bv] 80 (0,0))
 own:W.ownsRow (p+1) 116 4 nv Ns.length (FZ Ns)
structure fq(p:Nat)(w W:zp):Prop where
 os:W.os=w.os
 tape:W.tape=w.tape
 output:W.output=w.output
 size:w.heap.size<=W.heap.size
 low:∀k,k<p->W.heap[k]?=w.heap[k]?
 F4:∀(k:Nat) (cs:Array zx) (t:zD),w.heap[k]?=zh (zw cs t (0,0))->t≠80->t≠116->W.heap[k]?=zh (zw cs t (0,0))
theorem fq.trans{a b c:zp}(h:fq p a b)(k:fq p b c):fq p a c:=
 ⟨k.os.trans h.os,k.tape.trans h.tape,k.output.trans h.output,cM h.size k.size,λi hi=>(k.low i hi).trans (h.low i hi),λi cs t e h1 h2=>k.F4 i cs t (h.F4 i cs t e h1 h2) h1 h2⟩
theorem fq.wT(hB:p<=w.heap.size)(h:zy w.heap.size w W):fq p w W:=
 ⟨h.os,h.tape,h.output,h.size,λk hk=>h.block k (by omega),λk cs t e _ _=>(h.block k (az e)).trans e⟩
theorem j9.below{W':zp}(h:j9 p W nv bv Ns)(hb:zy W.heap.size W W'):j9 p W' nv bv Ns:=
 ⟨(hb.block p (az h.box)).trans h.box,uo h.own λb iQ=>hb.block b (dL h.own iQ).2⟩
theorem j9.form(h:j9 p W nv bv Ns):∃ao cap,nv=.slice ao Ns.length cap:=by
 rcases h.own.2 with ⟨h,h0⟩|⟨g,cap,_,h,_⟩
 ·exact⟨za,0,by rw[h,h0]⟩
 ·exact⟨_,_,h⟩
theorem PT{a b:Array zx}{t u:zD}{f g:Nat×Nat}(h:zh (Obj.cells a t f)=zh (Obj.cells b u g)):t=u:=by cases h;rfl
theorem L5{B n sz:Nat}{e:zD}{v:zx}{xs:List zx}(h:w.ownsRow B e sz v n xs){b:Nat}(hb:v.ownBlock=zh b):∃a9:Array zx,w.heap[b]?=zh (zw a9 e (0,0)):=by
 rcases h.2 with ⟨rfl,_⟩|⟨g,cap,a9,rfl,_,hh,_⟩
 ·simp[Value.ownBlock]at hb
 ·simp[Value.ownBlock]at hb;subst hb;exact⟨a9,hh⟩
theorem j9.zzf{W1 W9:zp}{d:bO}{g cap:Nat}(h:j9 p W nv bv Ns)(hb:zy W.heap.size W W1)(AU:W9.ownsRow (p+1) 116 4 (zi (zh ⟨g,0,za⟩) (Ns.length+1) cap) (Ns.length+1) (FZ Ns++Pg d))(kE:W1.grownBy W9 nv.ownBlock):
  W9.heap[p]?=zh (zw #[nv,bv] 80 (0,0))/\j9 p (W9.setCell ⟨p,0,za⟩ (zi (zh ⟨g,0,za⟩) (Ns.length+1) cap)) (zi (zh ⟨g,0,za⟩) (Ns.length+1) cap) bv (Ns++[d])/\fq p W (W9.setCell ⟨p,0,za⟩ (zi (zh ⟨g,0,za⟩) (Ns.length+1) cap)):=by
 have h1:=h.below hb;have hlt:=az h1.box;have hne:nv.ownBlock≠zh p:=λe=>by have:=(dL h1.own e).1;omega
 have bN:W9.heap[p]?=zh (zw #[nv,bv] 80 (0,0)):=(kE.block p hlt (λe=>hne e.symm)).trans h1.box;have Tg:∀(k:Nat) (cs:Array zx) (t:zD),W.heap[k]?=zh (zw cs t (0,0))->t≠116->W9.heap[k]?=zh (zw cs t (0,0)):=λk cs t e ht=>by
  have e1:=(hb.block k (az e)).trans e;refine(kE.block k (az e1) (λe2=>?_)).trans e1;obtain⟨a9,e3⟩:=L5 h1.own e2.symm;rw[e1]at e3;exact ht (PT e3)
 have Ze:=TS W9 p 0 (zi (zh ⟨g,0,za⟩) (Ns.length+1) cap);refine⟨bN,⟨?_,?_⟩,⟨kE.os.trans hb.os,kE.tape.trans hb.tape,kE.output.trans hb.output,?_,?_,?_⟩⟩
 ·have:=dx W9 p 0 _ _ (zi (zh ⟨g,0,za⟩) (Ns.length+1) cap) bN;exact this
 ·rw[zq7,a6,JO];refine uo AU λb iQ=>?_
  have:=(dL AU iQ).1;exact cS _ _ _ _ (by simp;omega)
 ·exact cM hb.size (cM kE.size Ze.size)
 ·intro k hk;rw[cS _ _ _ _ (by simp;omega)];have e1:W1.heap[k]?=W.heap[k]?:=hb.block k (by have:=az h.box;omega);rw[<-e1];exact kE.block k (by omega) (λe=>by have:=(dL h1.own e.symm).1;omega)
 ·intro k cs t e mP lR;have e9:=Tg k cs t e lR;refine(cS _ _ _ _ (λe2=>?_)).trans e9;simp at e2;subst e2;rw[bN]at e9;exact mP (PT e9).symm
end
theorem Try.zBc:(prog.info? 116).map (λi=>(i.zero,i.size,i.bytes))=zh (zh (zB #[.int .u8 0,zn .i64 0,zn .i64 0,zi za 0 0]),4,48):=by kernel_rfl
theorem zko{w:zp}{B:Nat}{a b c d:zx}{t:zD}(h:w.heap[B]?=zh (zw #[a,b,c,d] t (0,0))):∀j u,[a,b,c,d][j]?=zh u->w.cell? ((⟨B,0,za⟩:Addr).add j)=zh u:=World.news_of_block h
theorem Ea(p k l r:Nat)(so:Option Addr)(sn sc:Nat)(w:zp)(nv bv:zx)(Ns:List bO)(hW:j9 p w nv bv Ns)(hN:Ns.length<=8589934592):
  zG prog 77 #[zF (zh ⟨p,0,za⟩),zB #[.int .u8 k,zn .i64 l,zn .i64 r,.slice so sn sc]] w λe W=>e=.returned (zn .i64 Ns.length)/\(∃mW,j9 p W mW bv (Ns++[⟨k,l,r,.slice so sn sc⟩]))/\fq p w W:=by
 obtain⟨i0,hi,eQ,eR,dR⟩:=info_parts Try.zBc;obtain⟨ao,cap,rfl⟩:=hW.form;have hlt:=az hW.box;have hpB:p+1<=w.heap.size:=hlt;have bV:∀W1,zy w.heap.size w W1->W1.ownsRow (p+1) 116 4 (.slice ao Ns.length cap) Ns.length (FZ Ns):=λW1 hb=>(hW.below hb).own
 obtain⟨W0,ay⟩:∃W0,w.alloc (zw #[.int .u8 k,zn .i64 l,zn .i64 r,.slice so sn sc] 116)=W0:=⟨_,rfl⟩;have b0:zy w.heap.size w W0:=by rw[<-ay];exact aC
 have x0:W0.heap[w.heap.size]?=zh (zw #[.int .u8 k,zn .i64 l,zn .i64 r,.slice so sn sc] 116 (0,0)):=by rw[<-ay];exact aU _ _
 have s0:W0.heap.size=w.heap.size+1:=by rw[<-ay];simp
 obtain⟨q0,q1,q2,q3⟩:=eu x0;obtain⟨p0,p1⟩:=dM ((b0.block p hlt).trans hW.box);have Sp:∀W1 W9 g oX,zy w.heap.size w W1->W9.ownsRow (p+1) 116 4 (zi (zh ⟨g,0,za⟩) (Ns.length+1) oX) (Ns.length+1) (FZ Ns++[.int .u8 k,zn .i64 l,zn .i64 r,.slice so sn sc])->W1.grownBy W9 (Value.slice ao Ns.length cap).ownBlock->_:=λW1 W9 g oX h1 h2 h3=>hW.zzf (d:=⟨k,l,r,.slice so sn sc⟩) h1 h2 h3
 have bQ:=ag ay;have HW:=ag hW;have iO:=ag b0;have HAD:=ag Sp;have kI:w.heap.size<=W0.heap.size:=b0.size;have dz:p<W0.heap.size:=by omega
 clear ay hW x0 b0 Sp s0
 go_enter func77,ntmps77
 go_upto_region 1 with fail
 rw[bQ.out];clear bQ
 go_region_law ((refine step_append_lies _ (by rfl) (.tmp 9) (.tmp 11) 77 (by rfl) (p+1) 116 i0 _ 4 48 underlying77 hi eQ eR dR rfl (by omega) (.slice ao Ns.length cap) Ns.length (FZ Ns) (by rfl) (bV _ (by first|exact(iO.out.drew.alloc (by show _<=W0.heap.size;omega) _)|exact(iO.out.alloc (by omega) _).drew)) ⟨W0.heap.size,0,za⟩ 1 1 [.int .u8 k,zn .i64 l,zn .i64 r,.slice so sn sc] (by rfl) rfl (zko (by first|exact aU _ _|exact P7 (aU _ _))) (by intro u hu;simp at hu;rcases hu with rfl|rfl|rfl|rfl<;>rfl) (by omega) (by unfold maxLen;omega) (by omega) (by simp;omega) (W0.heap.size+1) (by simp) ?_;intro g oX w9 AU kE at9 lt9;obtain⟨Kw,wt9,kp9⟩:=HAD.out _ w9 g oX (by first|exact(iO.out.drew.alloc (by show _<=W0.heap.size;omega) _)|exact(iO.out.alloc (by omega) _).drew) AU kE;obtain⟨y0,y1⟩:=dM Kw;have f9:=aR _ _ 0 _ _ Kw))
 all_goals
  have z9:=(dM wt9.box).1;have HT9:=ag wt9;have HK9:=ag kp9;generalize Df:w9.setCell ⟨p,0,za⟩ (zi (zh ⟨g,0,za⟩) (Ns.length+1) oX)=W9 at *;clear Df wt9 kp9 AU kE at9 lt9 Kw y0 y1 f9 p0 p1 q0 q1 q2 q3;have BZ:IntKind.i64.wrap ((Ns.length:Int)+1-1)=(Ns.length:Int):=by rw[IntKind.wrap_i64];omega
  go_wp2;refine bw (v:=zn .i64 Ns.length) (by simp[results,results77,go_sem]) rfl ⟨rfl,⟨_,HT9.out⟩,HK9.out⟩
section
variable {w0 W W' w:zp}{ns:List aI}{gl gr p c cl cr:Nat}{ao:Option Addr}{nv bv:zx}{Ns:List bO}
structure Bf(w0 W:zp)(ns:List aI)(vn:zx)(gl gr:Nat):Prop where
 nodes:nX 0 w0 vn ns
 left:∃cs,W.heap[gl]?=zh (zw cs 3 (0,0))/\∀i,i<ns.length->cs[i]?=zh (zn .i64 (pD ns i))
 right:∃cs,W.heap[gr]?=zh (zw cs 3 (0,0))/\∀i,i<ns.length->cs[i]?=zh (zn .i64 (vy ns i))
theorem Bf.keep{vn:zx}(h:Bf w0 W ns vn gl gr)(k:fq p W W'):Bf w0 W' ns vn gl gr:=by
 obtain⟨h1,⟨cs,h2,h3⟩,uT,h4,h5⟩:=h;exact⟨h1,⟨cs,k.F4 _ _ _ h2 (by decide) (by decide),h3⟩,uT,k.F4 _ _ _ h4 (by decide) (by decide),h5⟩
theorem fq.base(k:fq p w W)(hb:zy w0.heap.size w0 w)(hp:w0.heap.size<=p):zy w0.heap.size w0 W:=
 ⟨k.os.trans hb.os,k.tape.trans hb.tape,k.output.trans hb.output,cM hb.size k.size,λi hi=>(k.low i (by omega)).trans (hb.block i hi)⟩
def WtR(w0:zp)(p:Nat)(w:zp)(bv:zx)(Ns:List bO)(M:GA)(k:Nat)(e:Ending)(W:zp):Prop:=
 ∃nv Ms T,e=.returned (zn .i64 ((Ns.length+Ms.length-1:Nat):Int))/\j9 p W nv bv (Ns++Ms)/\j8 w0 Ns Ms M k T/\fq p w W
def tJ(w0:zp)(ns:List aI)(n:Nat):Prop:=∀(p:Nat) (w:zp) (ao:Option Addr) (c gl cl gr cr:Nat) (nv bv:zx) (Ns:List bO),Bf w0 w ns (.slice ao ns.length c) gl gr->j9 p w nv bv Ns->zy w0.heap.size w0 w->w0.heap.size<=p->Ns.length+eI (cd ns n)<=8589934592->
 zG prog 53 #[zF (zh ⟨p,0,za⟩),zB #[.slice ao ns.length c,zi (zh ⟨gl,0,za⟩) ns.length cl,zi (zh ⟨gr,0,za⟩) ns.length cr,.string ⟨#[]⟩],zn .i64 n] w λe W=>WtR w0 p w bv Ns (iL (cd ns n)) (eI (cd ns n)) e W
structure vJ(w0:zp)(p:Nat)(w W:zp)(ns:List aI)(ao:Option Addr)(c gl cl gr cr:Nat)(nv bv:zx)(Ns:List bO):Prop where
 br:Bf w0 W ns (.slice ao ns.length c) gl gr
 wt:j9 p W nv bv Ns
 kp:fq p w W
 bl:zy w0.heap.size w0 W
 x0:W.heap[w.heap.size]?=zh (zw #[.slice ao ns.length c,zi (zh ⟨gl,0,za⟩) ns.length cl,zi (zh ⟨gr,0,za⟩) ns.length cr,.string ⟨#[]⟩] 110 (0,0))
theorem vJ.step{mW:zx}{Ms:List bO}(h:vJ w0 p w W ns ao c gl cl gr cr nv bv Ns)(hp:w0.heap.size<=p)(k:fq p W W')(hw:j9 p W' mW bv Ms):vJ w0 p w W' ns ao c gl cl gr cr mW bv Ms:=
 ⟨h.br.keep k,hw,h.kp.trans k,k.base h.bl hp,k.F4 _ _ _ h.x0 (by decide) (by decide)⟩
theorem vJ.start(dB:Bf w0 w ns (.slice ao ns.length c) gl gr)(hw:j9 p w nv bv Ns)(cQ:zy w0.heap.size w0 w)(hp:w0.heap.size<=p)
  (hW:w.alloc (zw #[.slice ao ns.length c,zi (zh ⟨gl,0,za⟩) ns.length cl,zi (zh ⟨gr,0,za⟩) ns.length cr,.string ⟨#[]⟩] 110)=W):vJ w0 p w W ns ao c gl cl gr cr nv bv Ns:=by
 subst hW;have hb:zy w.heap.size w (w.alloc (zw #[.slice ao ns.length c,zi (zh ⟨gl,0,za⟩) ns.length cl,zi (zh ⟨gr,0,za⟩) ns.length cr,.string ⟨#[]⟩] 110)):=aC;have k:=fq.wT (p:=p) (Nat.le_of_lt (az hw.box)) hb;exact⟨dB.keep k,hw.below hb,k,k.base cQ hp,aU _ _⟩
def Et(w0:zp)(ns:List aI)(n:Nat)(mn mx:Int):Prop:=∀(p:Nat) (w:zp) (ao:Option Addr) (c gl cl gr cr:Nat) (nv bv:zx) (Ns:List bO),Bf w0 w ns (.slice ao ns.length c) gl gr->j9 p w nv bv Ns->zy w0.heap.size w0 w->w0.heap.size<=p->Ns.length+o8 (eI (cd ns n)) mn mx<=8589934592->
 zG prog 78 #[zF (zh ⟨p,0,za⟩),zB #[.slice ao ns.length c,zi (zh ⟨gl,0,za⟩) ns.length cl,zi (zh ⟨gr,0,za⟩) ns.length cr,.string ⟨#[]⟩],zn .i64 n,zn .i64 mn,zn .i64 mx] w λe W=>WtR w0 p w bv Ns (rJ (iL (cd ns n)) mn mx) (o8 (eI (cd ns n)) mn mx) e W
theorem zlr(w0:zp)(ns:List aI)(n:Nat)(hW:tJ w0 ns n):Et w0 ns n 0 (-1):=by
 intro p w ao c gl cl gr cr nv bv Ns dB fg cQ hp hN;have l8:o8 (eI (cd ns n)) 0 (-1)=eI (cd ns n)+1:=by simp[o8]
 rw[l8]at hN ⊢;rw[zre];obtain⟨W0,ay⟩:∃W0,w.alloc (zw #[.slice ao ns.length c,zi (zh ⟨gl,0,za⟩) ns.length cl,zi (zh ⟨gr,0,za⟩) ns.length cr,.string ⟨#[]⟩] 110)=W0:=⟨_,rfl⟩;have bF:=vJ.start (cl:=cl) (cr:=cr) dB fg cQ hp ay;have cw:=hW p W0 ao c gl cl gr cr nv bv Ns bF.br bF.wt bF.bl hp (by omega);obtain⟨p0,p1,p2,p3⟩:=eu bF.x0;have eF:=ag bF;have bQ:=ag ay;have HN:=ag hN;clear dB fg cQ hN l8 bF ay
 go_enter func78,ntmps78
 go_upto_region 1 with fail
 rw[bQ.out];clear bQ
 go_wp2_with fail
 refine cw.mono ?_;rintro e W1 ⟨mj,Ms,T,rfl,ng,kN,nP⟩;have fj:=ag (eF.out.step hp nP ng);have tG:=ag kN;have oA:(Ns++Ms).length<=8589934592:=by have:=kN.len;have:=HN.out;simp;omega
 have ca:=Ea p 42 (Ns.length+Ms.length-1) 0 za 0 0 W1 mj bv (Ns++Ms) ng oA;generalize cG:Ns.length+Ms.length-1=i1 at *;have lY:=ag cG;clear cw ng kN nP oA cG p0 p1 p2 p3
 go_wp2_with fail
 refine ca.mono ?_;rintro e W2 ⟨rfl,⟨mX,nh⟩,oF⟩;clear ca;go_wp2;refine bw (v:=zn .i64 (((Ns++Ms).length:Nat):Int)) (by simp[results,results78,go_sem]) rfl ⟨mX,Ms++[⟨42,i1,0,zi za 0 0⟩],.st T,?_,?_,?_,(fj.out.kp.trans oF)⟩
 ·simp
 ·rw[<-jA];exact nh
 ·have:=tG.out.star;rw[lY.out]at this;exact this
theorem zls(w0:zp)(ns:List aI)(n:Nat):Et w0 ns n 0 0:=by
 intro p w ao c gl cl gr cr nv bv Ns dB fg cQ hp hN;have l8:o8 (eI (cd ns n)) 0 0=1:=by simp[o8]
 rw[l8]at hN ⊢;rw[zrf];obtain⟨W0,ay⟩:∃W0,w.alloc (zw #[.slice ao ns.length c,zi (zh ⟨gl,0,za⟩) ns.length cl,zi (zh ⟨gr,0,za⟩) ns.length cr,.string ⟨#[]⟩] 110)=W0:=⟨_,rfl⟩;have bF:=vJ.start (cl:=cl) (cr:=cr) dB fg cQ hp ay;have ca:=Ea p 101 0 0 za 0 0 W0 nv bv Ns bF.wt (by omega);have eF:=ag bF;have bQ:=ag ay;clear dB fg cQ hN l8 bF ay
 go_enter func78,ntmps78
 go_upto_region 1 with fail
 rw[bQ.out];clear bQ
 go_wp2_with fail
 refine ca.mono ?_;rintro e W2 ⟨rfl,⟨mX,nh⟩,oF⟩;clear ca;go_wp2;refine bw (v:=zn .i64 ((Ns.length:Nat):Int)) (by simp[results,results78,go_sem]) rfl ⟨mX,[⟨101,0,0,zi za 0 0⟩],.e,?_,nh,j8.F6,(eF.out.kp.trans oF)⟩;simp
theorem zgG(w0:zp)(ns:List aI)(n:Nat)(mn mx mr:Int)(hW:tJ w0 ns n)(h0:0<mn)(hx:(mx=-1/\mr=-1)\/(0<mx/\mn<=mx/\mr=mx-1))(k8:mn<=1000)(hmx:mx<=1000)(hC:Et w0 ns n (mn-1) mr):Et w0 ns n mn mx:=by
 intro p w ao c gl cl gr cr nv bv Ns dB fg cQ hp hN;have l8:o8 (eI (cd ns n)) mn mx=eI (cd ns n)+o8 (eI (cd ns n)) (mn-1) mr+1:=by
  obtain⟨k,rfl⟩:∃k:Nat,mn=k+1:=⟨(mn-1).toNat,by omega⟩;unfold o8;rcases hx with ⟨rfl,rfl⟩|⟨h1,h2,rfl⟩
  ·rw[ae rfl,ae rfl,show ((k:Int)+1).toNat=k+1 by omega,show ((k:Int)+1-1).toNat=k by omega,Eo];omega
  ·rw[ab (by omega),ab (by omega),show ((k:Int)+1).toNat=k+1 by omega,show ((k:Int)+1-1).toNat=k by omega,show mx-1-(k+1-1)=mx-(k+1) by omega,Eo];omega
 have Dy:rJ (iL (cd ns n)) mn mx=(iL (cd ns n)).seq (rJ (iL (cd ns n)) (mn-1) mr):=by
  rcases zrd (iL (cd ns n)) mn mx h0 with h|h
  ·rw[h];rcases hx with ⟨rfl,rfl⟩|⟨h1,h2,rfl⟩
   ·rfl
   ·rw[ae (by omega)]
  ·omega
 rw[l8]at hN ⊢;rw[Dy];obtain⟨W0,ay⟩:∃W0,w.alloc (zw #[.slice ao ns.length c,zi (zh ⟨gl,0,za⟩) ns.length cl,zi (zh ⟨gr,0,za⟩) ns.length cr,.string ⟨#[]⟩] 110)=W0:=⟨_,rfl⟩;have bF:=vJ.start (cl:=cl) (cr:=cr) dB fg cQ hp ay;have cw:=hW p W0 ao c gl cl gr cr nv bv Ns bF.br bF.wt bF.bl hp (by omega);obtain⟨p0,p1,p2,p3⟩:=eu bF.x0;have eF:=ag bF;have bQ:=ag ay;have HN:=ag hN;have HX:=ag hx;have YU:¬mn=0:=by omega
 have wK:IntKind.i64.wrap (mn-1)=mn-1:=by rw[IntKind.wrap_i64];omega
 have gz:¬mx=0:=by omega
 clear dB fg cQ hN l8 bF ay Dy hx;have fin:∀(W1:zp) (mj:zx) (Ms:List bO) (T:GT),j9 p W1 mj bv (Ns++Ms)->j8 w0 Ns Ms (iL (cd ns n)) (eI (cd ns n)) T->fq p W0 W1->vJ w0 p w W1 ns ao c gl cl gr cr mj bv (Ns++Ms)/\zG prog 78 #[zF (zh ⟨p,0,za⟩),zB #[.slice ao ns.length c,zi (zh ⟨gl,0,za⟩) ns.length cl,zi (zh ⟨gr,0,za⟩) ns.length cr,.string ⟨#[]⟩],zn .i64 n,zn .i64 (mn-1),zn .i64 mr] W1 λe W2=>∃mX Ls U,e=.returned (zn .i64 (((Ns++Ms).length+Ls.length-1:Nat):Int))/\j9 p W2 mX bv (Ns++(Ms++Ls))/\fq p w W2/\(Ns++(Ms++Ls)).length<=8589934592/\j8 w0 Ns (Ms++Ls++[⟨113,Ns.length+Ms.length-1,(Ns++Ms).length+Ls.length-1,zi za 0 0⟩]) ((iL (cd ns n)).seq (rJ (iL (cd ns n)) (mn-1) mr)) (eI (cd ns n)+o8 (eI (cd ns n)) (mn-1) mr+1) (.q T U):=by
  intro W1 mj Ms T ng kN nP;have s1:=eF.out.step hp nP ng;refine⟨s1,(hC p W1 ao c gl cl gr cr mj bv (Ns++Ms) s1.br s1.wt s1.bl hp (by have:=kN.len;have:=HN.out;rw[a6];omega)).mono ?_⟩;rintro e W2 ⟨mX,Ls,U,rfl,nh,pA,oF⟩;refine⟨mX,Ls,U,rfl,by rw[<-jA];exact nh,s1.kp.trans oF,?_,kN.seq pA⟩;have:=kN.len;have:=pA.len;have:=HN.out;rw[a6,a6];omega
 have HF:=ag fin;clear fin
 go_enter func78,ntmps78
 go_upto_region 1 with fail
 rw[bQ.out];clear bQ;rcases HX.out with ⟨rfl,rfl⟩|⟨h1,h2,rfl⟩
 all_goals
  (try (have hwx:IntKind.i64.wrap (mx-1)=mx-1:=by rw[IntKind.wrap_i64];omega))
  go_wp2_with fail
  refine cw.mono ?_;rintro e W1 ⟨mj,Ms,T,rfl,ng,kN,nP⟩;obtain⟨s1,cc⟩:=HF.out W1 mj Ms T ng kN nP;obtain⟨p0,p1,p2,p3⟩:=eu s1.x0;generalize cG:Ns.length+Ms.length-1=i1 at *;clear ng kN nP s1 cw cG
  go_wp2_with fail
  refine cc.mono ?_;rintro e W2 ⟨mX,Ls,U,rfl,nh,oF,dT,pA⟩;have CH:=ag pA;have tB:=ag oF;generalize fA:(Ns++Ms).length+Ls.length-1=i2 at *;have ca:=Ea p 113 i1 i2 za 0 0 W2 mX bv (Ns++(Ms++Ls)) nh dT;clear cc pA oF nh dT fA
  go_wp2_with fail
  refine ca.mono ?_;rintro e W3 ⟨rfl,⟨AQ,F7⟩,FW⟩;clear ca;go_wp2;refine bw (v:=zn .i64 (((Ns++(Ms++Ls)).length:Nat):Int)) (by simp[results,results78,go_sem]) rfl ⟨AQ,Ms++Ls++[⟨113,i1,i2,zi za 0 0⟩],.q T U,?_,?_,CH.out,tB.out.trans FW⟩
  ·rw[ze,a6];rfl
  ·rw[<-jA];exact F7
theorem zlq(w0:zp)(ns:List aI)(n:Nat)(mx:Int)(hW:tJ w0 ns n)(h0:0<mx)(hmx:mx<=1000)(hC:Et w0 ns n 0 (mx-1)):Et w0 ns n 0 mx:=by
 intro p w ao c gl cl gr cr nv bv Ns dB fg cQ hp hN;have l8:o8 (eI (cd ns n)) 0 mx=(eI (cd ns n)+o8 (eI (cd ns n)) 0 (mx-1)+1)+1+1:=by
  obtain⟨k,rfl⟩:∃k:Nat,mx=k+1:=⟨(mx-1).toNat,by omega⟩;unfold o8;rw[ab (by omega),ab (by omega),show ((k:Int)+1-0).toNat=k+1 by omega,show ((k:Int)+1-1-0).toNat=k by omega,Eo];omega
 have Dy:=zrc (iL (cd ns n)) mx h0;rw[l8]at hN ⊢;rw[Dy];obtain⟨W0,ay⟩:∃W0,w.alloc (zw #[.slice ao ns.length c,zi (zh ⟨gl,0,za⟩) ns.length cl,zi (zh ⟨gr,0,za⟩) ns.length cr,.string ⟨#[]⟩] 110)=W0:=⟨_,rfl⟩;have bF:=vJ.start (cl:=cl) (cr:=cr) dB fg cQ hp ay;have cw:=hW p W0 ao c gl cl gr cr nv bv Ns bF.br bF.wt bF.bl hp (by omega);obtain⟨p0,p1,p2,p3⟩:=eu bF.x0;have eF:=ag bF;have bQ:=ag ay;have HN:=ag hN;have gz:¬mx=0:=by omega
 have pZ:¬mx=-1:=by omega
 have hwx:IntKind.i64.wrap (mx-1)=mx-1:=by rw[IntKind.wrap_i64];omega
 clear dB fg cQ hN l8 bF ay Dy;have fin:∀(W1:zp) (mj:zx) (Ms:List bO) (T:GT),j9 p W1 mj bv (Ns++Ms)->j8 w0 Ns Ms (iL (cd ns n)) (eI (cd ns n)) T->fq p W0 W1->vJ w0 p w W1 ns ao c gl cl gr cr mj bv (Ns++Ms)/\zG prog 78 #[zF (zh ⟨p,0,za⟩),zB #[.slice ao ns.length c,zi (zh ⟨gl,0,za⟩) ns.length cl,zi (zh ⟨gr,0,za⟩) ns.length cr,.string ⟨#[]⟩],zn .i64 n,zn .i64 0,zn .i64 (mx-1)] W1 λe W2=>∃mX Ls U,e=.returned (zn .i64 (((Ns++Ms).length+Ls.length-1:Nat):Int))/\j9 p W2 mX bv (Ns++(Ms++Ls))/\fq p w W2/\(Ns++(Ms++Ls)).length+2<=8589934592/\j8 w0 Ns (Ms++Ls++[⟨113,Ns.length+Ms.length-1,(Ns++Ms).length+Ls.length-1,zi za 0 0⟩]) ((iL (cd ns n)).seq (rJ (iL (cd ns n)) 0 (mx-1))) (eI (cd ns n)+o8 (eI (cd ns n)) 0 (mx-1)+1) (.q T U):=by
  intro W1 mj Ms T ng kN nP;have s1:=eF.out.step hp nP ng;refine⟨s1,(hC p W1 ao c gl cl gr cr mj bv (Ns++Ms) s1.br s1.wt s1.bl hp (by have:=kN.len;have:=HN.out;rw[a6];omega)).mono ?_⟩;rintro e W2 ⟨mX,Ls,U,rfl,nh,pA,oF⟩;refine⟨mX,Ls,U,rfl,by rw[<-jA];exact nh,s1.kp.trans oF,?_,kN.seq pA⟩;have:=kN.len;have:=pA.len;have:=HN.out;rw[a6,a6];omega
 have HF:=ag fin;clear fin
 go_enter func78,ntmps78
 go_upto_region 1 with fail
 rw[bQ.out];clear bQ
 go_wp2_with fail
 refine cw.mono ?_;rintro e W1 ⟨mj,Ms,T,rfl,ng,kN,nP⟩;obtain⟨s1,cc⟩:=HF.out W1 mj Ms T ng kN nP;obtain⟨p0,p1,p2,p3⟩:=eu s1.x0;generalize cG:Ns.length+Ms.length-1=i1 at *;clear ng kN nP s1 cw cG
 go_wp2_with fail
 refine cc.mono ?_;rintro e W2 ⟨mX,Ls,U,rfl,nh,oF,dT,pA⟩;have tB:=ag oF;generalize fA:(Ns++Ms).length+Ls.length-1=i2 at *;obtain⟨Q,hQ⟩:∃Q,Ms++Ls++[(⟨113,i1,i2,zi za 0 0⟩:bO)]=Q:=⟨_,rfl⟩;have Fg:Q.length=(Ms++Ls).length+1:=by rw[<-hQ,ze]
 have hNl:(Ns++(Ms++Ls)).length=Ns.length+(Ms++Ls).length:=a6;have ca:=Ea p 113 i1 i2 za 0 0 W2 mX bv (Ns++(Ms++Ls)) nh (by omega);rw[show Ns++(Ms++Ls)++[(⟨113,i1,i2,zi za 0 0⟩:bO)]=Ns++Q by rw[<-hQ,jA]]at ca;rw[hQ]at pA;have CH:=ag pA;have jD:=ag dT;have lL:(Ns++(Ms++Ls)).length=Ns.length+Q.length-1:=by omega
 rw[lL]at ca;have HQL:=ag Fg;have M2:=ag hNl;have HLA:=ag lL;generalize oy:Ns.length+Q.length-1=i3 at *;have j7:=ag oy;clear cc pA oF nh dT fA hQ Fg hNl lL oy
 go_wp2_with fail
 refine ca.mono ?_;rintro e W3 ⟨rfl,⟨AQ,F7⟩,FW⟩;have ce:=Ea p 101 0 0 za 0 0 W3 AQ bv (Ns++Q) F7 (by rw[a6];have:=jD.out;have:=HQL.out;have:=M2.out;omega);have Bk:=ag (tB.out.trans FW);have Vt:=CH.out.eA (j8.F6 (w0:=w0) (Ns:=Ns++Q));rw[j7.out,show (Ns++Q).length+[(⟨101,0,0,zi za 0 0⟩:bO)].length-1=(Ns++Q).length from rfl]at Vt;have gM:(Ns++Q++[(⟨101,0,0,zi za 0 0⟩:bO)]).length<=8589934592:=by rw[ze,a6];have:=jD.out;have:=HQL.out;have:=M2.out;omega
 have h4:((Ns++Q++[(⟨101,0,0,zi za 0 0⟩:bO)]).length)=Ns.length+(Q++[(⟨101,0,0,zi za 0 0⟩:bO)]++[(⟨111,i3,(Ns++Q).length,zi za 0 0⟩:bO)]).length-1:=by rw[ze,ze,ze,a6];rfl
 have H4:=ag h4;have GN:=ag gM;have HT6:=ag Vt;generalize Dn:(Ns++Q).length=i4 at *;clear ca F7 FW Vt h4 gM Dn
 go_wp2_with fail
 refine ce.mono ?_;rintro e W4 ⟨rfl,⟨LM,Tt⟩,Pc⟩;have co:=Ea p 111 i3 i4 za 0 0 W4 LM bv (Ns++Q++[⟨101,0,0,zi za 0 0⟩]) Tt GN.out;rw[H4.out]at co;have GS:=ag (Bk.out.trans Pc);generalize IG:Ns.length+(Q++[(⟨101,0,0,zi za 0 0⟩:bO)]++[(⟨111,i3,i4,zi za 0 0⟩:bO)]).length-1=i5 at *;have GR:=ag IG;clear ce Tt Pc IG
 go_wp2_with fail
 refine co.mono ?_;rintro e W5 ⟨rfl,⟨nv5,wt5⟩,kp5⟩;clear co;go_wp2;refine bw (v:=zn .i64 (i5:Int)) (by simp[results,results78,go_sem]) rfl ⟨nv5,Q++[⟨101,0,0,zi za 0 0⟩]++[⟨111,i3,i4,zi za 0 0⟩],_,?_,?_,HT6.out,GS.out.trans kp5⟩
 ·rw[GR.out]
 ·rw[<-jA,<-jA];exact wt5
theorem zh7(w0:zp)(ns:List aI)(n:Nat)(hW:tJ w0 ns n):∀(k:Nat) (mn mx:Int),0<=mn->mn<=1000->mx<=1000->(mx=-1/\mn=k\/mn<=mx/\mx=k)->Et w0 ns n mn mx:=by
 intro k
 induction k with
 |zero=>
  intro mn mx h0 h1 h2 h3;rcases h3 with ⟨rfl,h⟩|⟨h,h'⟩
  ·obtain rfl:mn=0:=by omega
   exact zlr w0 ns n hW
  ·obtain rfl:mn=0:=by omega
   obtain rfl:mx=0:=by omega
   exact zls w0 ns n
 |succ k ih=>
  intro mn mx h0 h1 h2 h3;rcases h3 with ⟨rfl,h⟩|⟨h,h'⟩
  ·exact zgG w0 ns n mn (-1) (-1) hW (by omega) (.inl ⟨rfl,rfl⟩) h1 h2 (ih (mn-1) (-1) (by omega) (by omega) (by omega) (.inl ⟨rfl,by omega⟩))
  ·by_cases hm:mn=0
   ·subst hm;exact zlq w0 ns n mx hW (by omega) h2 (ih 0 (mx-1) (by omega) (by omega) (by omega) (.inr ⟨by omega,by omega⟩))
   ·exact zgG w0 ns n mn mx (mx-1) hW (by omega) (.inr ⟨by omega,h,rfl⟩) h1 h2 (ih (mn-1) (mx-1) (by omega) (by omega) (by omega) (.inr ⟨by omega,by omega⟩))
end
section
variable {w W w0:zp}{g nv bv k s mn mx:zx}{c p gl cl gr cr:Nat}{Ns:List bO}{ns:List aI}{ao:Option Addr}
theorem DL{g:Nat}{a b c d e:zx}{t:zD}(h:w.heap[g]?=zh (zw #[a,b,c,d,e] t (0,0))):w.cell? ⟨g,0,za⟩=zh a/\w.cell? ⟨g,1,za⟩=zh b/\w.cell? ⟨g,2,za⟩=zh c/\w.cell? ⟨g,3,za⟩=zh d/\w.cell? ⟨g,4,za⟩=zh e:=by
 have:∀o,w.cell? ⟨g,o,za⟩=#[a,b,c,d,e][o]?:=λ_=>dt _ _ _ _ _ _ h
 exact⟨this 0,this 1,this 2,this 3,this 4⟩
theorem fq.drewN(w:zp)(n:Nat):fq p w (w.drewN n):=⟨rfl,rfl,rfl,ax _,λ_ _=>rfl,λ_ _ _ h _ _=>h⟩
theorem j9.drewN(h:j9 p W nv bv Ns)(n:Nat):j9 p (W.drewN n) nv bv Ns:=h.below ⟨rfl,rfl,rfl,ax _,λ_ _=>rfl⟩
structure xZ(w0:zp)(p:Nat)(w W:zp)(ns:List aI)(ao:Option Addr)(c gl cl gr cr:Nat)(nv bv:zx)(Ns:List bO)(k s mn mx g:zx):Prop where
 cs:vJ w0 p w W ns ao c gl cl gr cr nv bv Ns
 x1:W.heap[w.heap.size+1]?=zh (zw #[k,s,mn,mx,g] 125 (0,0))
theorem xZ.step{W':zp}{mW:zx}{Ms:List bO}(h:xZ w0 p w W ns ao c gl cl gr cr nv bv Ns k s mn mx g)(hp:w0.heap.size<=p)(kp:fq p W W')(hw:j9 p W' mW bv Ms):xZ w0 p w W' ns ao c gl cl gr cr mW bv Ms k s mn mx g:=
 ⟨h.cs.step hp kp hw,kp.F4 _ _ _ h.x1 (by decide) (by decide)⟩
theorem xZ.start(dB:Bf w0 w ns (.slice ao ns.length c) gl gr)(hw:j9 p w nv bv Ns)(cQ:zy w0.heap.size w0 w)(hp:w0.heap.size<=p)
  (hW:(w.alloc (zw #[.slice ao ns.length c,zi (zh ⟨gl,0,za⟩) ns.length cl,zi (zh ⟨gr,0,za⟩) ns.length cr,.string ⟨#[]⟩] 110)).alloc (zw #[k,s,mn,mx,g] 125)=W):xZ w0 p w W ns ao c gl cl gr cr nv bv Ns k s mn mx g:=by
 subst hW;have h0:=vJ.start (cl:=cl) (cr:=cr) dB hw cQ hp rfl;have hb:zy (w.alloc (zw #[.slice ao ns.length c,zi (zh ⟨gl,0,za⟩) ns.length cl,zi (zh ⟨gr,0,za⟩) ns.length cr,.string ⟨#[]⟩] 110)).heap.size _ ((w.alloc (zw #[.slice ao ns.length c,zi (zh ⟨gl,0,za⟩) ns.length cl,zi (zh ⟨gr,0,za⟩) ns.length cr,.string ⟨#[]⟩] 110)).alloc (zw #[k,s,mn,mx,g] 125)):=aC;exact⟨h0.step hp (fq.wT (Nat.le_of_lt (az h0.wt.box)) hb) (h0.wt.below hb),UD _ _ _⟩
theorem xZ.kids(h:xZ w0 p w W ns ao c gl cl gr cr nv bv Ns k s mn mx g){n:Nat}(hn:n<ns.length):W.cell? ⟨gl,n,za⟩=zh (zn .i64 (pD ns n))/\W.cell? ⟨gr,n,za⟩=zh (zn .i64 (vy ns n)):=by
 obtain⟨-,⟨cs,h2,h3⟩,uT,h4,h5⟩:=h.cs.br;constructor
 ·rw[show W.cell? ⟨gl,n,za⟩=cs[n]? from dt _ _ _ _ _ _ h2];exact h3 n hn
 ·rw[show W.cell? ⟨gr,n,za⟩=uT[n]? from dt _ _ _ _ _ _ h4];exact h5 n hn
theorem ztl(w0:zp)(ns:List aI)(n:Nat)(hn:n<ns.length)(hk:dK ns n=1)(hT:cd ns n=.set (tR (ns.getD n .zero).set)):tJ w0 ns n:=by
 intro p w ao c gl cl gr cr nv bv Ns dB fg cQ hp hN;rw[hT]at hN ⊢;obtain⟨Rn,uS,hv,Lr,bn⟩:=dB.nodes;cases hv;obtain⟨b,o,sv,nd,rfl,Hn,Aj,c0,c1,c2,c3,c4,jr⟩:=bn.elem cQ hn;have cK:nd.kind=1:=by rw[<-hk];unfold dK;rw[Hn.out]
 rw[cK]at c0;obtain⟨dU,dV,Dz,hsm,wH⟩:=jr;subst Dz;have iU:b<w.heap.size:=fR Aj cQ.size;obtain⟨W0,ay⟩:∃W0,(w.alloc (zw #[zi (zh ⟨b,o,za⟩) ns.length c,zi (zh ⟨gl,0,za⟩) ns.length cl,zi (zh ⟨gr,0,za⟩) ns.length cr,.string ⟨#[]⟩] 110)).alloc (zw #[zn .i64 1,.slice dU nd.set.length dV,zn .i64 nd.min,zn .i64 nd.max,zn .i64 nd.group] 125)=W0:=⟨_,rfl⟩;have bF:=xZ.start (cl:=cl) (cr:=cr) dB fg cQ hp ay;obtain⟨p0,p1,p2,p3⟩:=eu bF.cs.x0;obtain⟨q0,q1,q2,q3,q4⟩:=DL bF.x1;obtain⟨e0,e1⟩:=bF.kids hn;have fk:(0:Int)<=(n:Int):=by omega
 have cG:(n:Int)<(ns.length:Int):=by omega
 have du:prog.follows .mixedOrders=true:=by kernel_rfl
 rw[Hn.out]at hN ⊢;have hrs:nk 0 w0 (.slice dU nd.set.length dV) nd.set:=by
  obtain⟨b',o',sv',nd',RB,VS,-,-,d1,-,-,-,zAW⟩:=bn.elem (Below.refl _ _) hn;cases RB;have d2:=(cQ.cell (p:=⟨b,o+n*5+1,za⟩) Aj).trans d1;rw[c1]at d2;cases d2;have:nd=nd':=by rw[<-Hn.out,<-VS.out]
  subst this;exact zAW
 have Da:Ns.length<=8589934592:=by omega
 have ca:=Ea p 115 0 0 dU nd.set.length dV W0 nv bv Ns bF.cs.wt Da;have HRS:=ag hrs;clear hrs;have eF:=ag bF;have bQ:=ag ay;have HN:=ag hN;clear dB fg cQ hN bF ay bn wH hk cK hT
 go_enter func53,ntmps53
 go_upto_region 2 with fail
 rw[bQ.out];clear bQ c0 c1 c2 c3 c4
 go_wp2_with fail
 refine ca.mono ?_;rintro e W2 ⟨rfl,⟨mX,nh⟩,oF⟩;clear ca;go_wp2;refine bw (v:=zn .i64 ((Ns.length:Nat):Int)) (by simp[results,results53,go_sem]) rfl ⟨mX,[⟨115,0,0,.slice dU nd.set.length dV⟩],_,?_,nh,j8.leaf HRS.out,(eF.out.cs.kp.trans oF)⟩;simp
theorem ztk(w0:zp)(ns:List aI)(n x y:Nat)(hn:n<ns.length)(hk:dK ns n=2)(hT:cd ns n=.seq (cd ns x) (cd ns y))(hL:pD ns n=x)(hR:vy ns n=y)(hX:tJ w0 ns x)(hY:tJ w0 ns y):tJ w0 ns n:=by
 intro p w ao c gl cl gr cr nv bv Ns dB fg cQ hp hN;rw[hT]at hN ⊢;obtain⟨Rn,uS,hv,Lr,bn⟩:=dB.nodes;cases hv;obtain⟨b,o,sv,nd,rfl,Hn,Aj,c0,c1,c2,c3,c4,jr⟩:=bn.elem cQ hn;have cK:nd.kind=2:=by rw[<-hk];unfold dK;rw[Hn.out]
 rw[cK]at c0;obtain⟨dU,dV,Dz,hsm,wH⟩:=jr;subst Dz;have iU:b<w.heap.size:=fR Aj cQ.size;obtain⟨W0,ay⟩:∃W0,(w.alloc (zw #[zi (zh ⟨b,o,za⟩) ns.length c,zi (zh ⟨gl,0,za⟩) ns.length cl,zi (zh ⟨gr,0,za⟩) ns.length cr,.string ⟨#[]⟩] 110)).alloc (zw #[zn .i64 2,.slice dU nd.set.length dV,zn .i64 nd.min,zn .i64 nd.max,zn .i64 nd.group] 125)=W0:=⟨_,rfl⟩;have bF:=xZ.start (cl:=cl) (cr:=cr) dB fg cQ hp ay;obtain⟨p0,p1,p2,p3⟩:=eu bF.cs.x0;obtain⟨q0,q1,q2,q3,q4⟩:=DL bF.x1;obtain⟨e0,e1⟩:=bF.kids hn;have fk:(0:Int)<=(n:Int):=by omega
 have cG:(n:Int)<(ns.length:Int):=by omega
 have du:prog.follows .mixedOrders=true:=by kernel_rfl
 rw[hL]at e0;rw[hR]at e1;have nL:eI (Pt.seq (cd ns x) (cd ns y))=eI (cd ns x)+eI (cd ns y)+1:=rfl;rw[nL]at hN ⊢;have mQ:iL (Pt.seq (cd ns x) (cd ns y))=(iL (cd ns x)).seq (iL (cd ns y)):=rfl;rw[mQ];have HR:=ag hR;clear nL mQ hL hR;have eF:=ag bF;have bQ:=ag ay;have HN:=ag hN;clear dB fg cQ hN bF ay bn wH hk cK hT
 go_enter func53,ntmps53
 go_upto_region 2 with fail
 rw[bQ.out];clear bQ c0 c1 c2 c3 c4
 go_upto_region 7 with fail
 refine Jo 7 (λw'=>∃n,w'=W0.drewN n) du ⟨1,rfl⟩ (by decide) (by kernel_rfl) ?_;intro os aX;simp only[gG,kQ]at aX;subst aX
 repeat (go_big_quiet_step (fail))
 refine wpQuiet_nil ?_;rintro w' ⟨nq,rfl⟩ r hr;simp only[rT,qi]at hr;subst hr
 go_wp2_with fail
 refine(hX p _ (zh ⟨b,o,za⟩) c gl cl gr cr nv bv Ns (eF.out.cs.br.keep (fq.drewN (p:=p) _ _)) (eF.out.cs.wt.drewN _) ((fq.drewN (p:=p) _ _).base eF.out.cs.bl hp) hp (by have:=HN.out;omega)).mono ?_;rintro e W1 ⟨mj,Ms,T,rfl,ng,kN,nP⟩;have uW:=eF.out.step hp ((fq.drewN _ nq).trans nP) ng;obtain⟨p0,p1,p2,p3⟩:=eu uW.cs.x0;obtain⟨q0,q1,q2,q3,q4⟩:=DL uW.x1;have e0:=(uW.cs.br.right);obtain⟨cs,f1,f2⟩:=uW.cs.br.right;have e1:W1.cell? ⟨gr,n,za⟩=zh (zn .i64 y):=by rw[show W1.cell? ⟨gr,n,za⟩=cs[n]? from dt _ _ _ _ _ _ f1,f2 n hn,HR.out]
 have fj:=ag uW;have tG:=ag kN;generalize cG:Ns.length+Ms.length-1=i1 at *;have lY:=ag cG;clear ng kN nP uW cG f1 f2 e0
 go_upto_region 8 with fail
 refine Jo 7 (λw'=>∃n,w'=W1.drewN n) du ⟨1,rfl⟩ (by decide) (by kernel_rfl) ?_;intro os aX;simp only[gG,kQ]at aX;subst aX
 repeat (go_big_quiet_step (fail))
 refine wpQuiet_nil ?_;rintro w' ⟨nq,rfl⟩ r hr;simp only[rT,qi]at hr;subst hr
 go_wp2_with fail
 refine(hY p _ (zh ⟨b,o,za⟩) c gl cl gr cr mj bv (Ns++Ms) (fj.out.cs.br.keep (fq.drewN (p:=p) _ _)) (fj.out.cs.wt.drewN _) ((fq.drewN (p:=p) _ _).base fj.out.cs.bl hp) hp (by have:=tG.out.len;have:=HN.out;rw[a6];omega)).mono ?_;rintro e W2 ⟨mX,Ls,U,rfl,nh,pA,oF⟩;have Fh:=fj.out.step hp ((fq.drewN _ nq).trans oF) nh;obtain⟨q0,q1,q2,q3,q4⟩:=DL Fh.x1;have Jl:=tG.out.seq pA;rw[lY.out]at Jl;have dT:(Ns++Ms++Ls).length<=8589934592:=by have:=tG.out.len;have:=pA.len;have:=HN.out;rw[a6,a6];omega
 have hlen:(Ns++Ms++Ls).length=Ns.length+(Ms++Ls++[(⟨113,i1,(Ns++Ms).length+Ls.length-1,zi za 0 0⟩:bO)]).length-1:=by rw[ze,jA,a6];rfl
 generalize fA:(Ns++Ms).length+Ls.length-1=i2 at *;have ca:=Ea p 113 i1 i2 za 0 0 W2 mX bv (Ns++Ms++Ls) nh dT;rw[hlen]at ca;generalize oy:Ns.length+(Ms++Ls++[(⟨113,i1,i2,zi za 0 0⟩:bO)]).length-1=i3 at *;have j7:=ag oy;have fS:=ag Fh;have Bo:=ag Jl;clear nh pA oF Fh fA oy Jl dT hlen
 go_wp2_with fail
 refine ca.mono ?_;rintro e W3 ⟨rfl,⟨AQ,F7⟩,FW⟩;clear ca;go_wp2;refine bw (v:=zn .i64 (i3:Int)) (by simp[results,results53,go_sem]) rfl ⟨AQ,Ms++Ls++[⟨113,i1,i2,zi za 0 0⟩],_,?_,?_,Bo.out,(fS.out.cs.kp.trans FW)⟩
 ·rw[j7.out]
 ·rw[<-jA,<-jA];exact F7
theorem zth(w0:zp)(ns:List aI)(n x y:Nat)(hn:n<ns.length)(hk:dK ns n=3)(hT:cd ns n=.eA (cd ns x) (cd ns y))(hL:pD ns n=x)(hR:vy ns n=y)(hX:tJ w0 ns x)(hY:tJ w0 ns y):tJ w0 ns n:=by
 intro p w ao c gl cl gr cr nv bv Ns dB fg cQ hp hN;rw[hT]at hN ⊢;obtain⟨Rn,uS,hv,Lr,bn⟩:=dB.nodes;cases hv;obtain⟨b,o,sv,nd,rfl,Hn,Aj,c0,c1,c2,c3,c4,jr⟩:=bn.elem cQ hn;have cK:nd.kind=3:=by rw[<-hk];unfold dK;rw[Hn.out]
 rw[cK]at c0;obtain⟨dU,dV,Dz,hsm,wH⟩:=jr;subst Dz;have iU:b<w.heap.size:=fR Aj cQ.size;obtain⟨W0,ay⟩:∃W0,(w.alloc (zw #[zi (zh ⟨b,o,za⟩) ns.length c,zi (zh ⟨gl,0,za⟩) ns.length cl,zi (zh ⟨gr,0,za⟩) ns.length cr,.string ⟨#[]⟩] 110)).alloc (zw #[zn .i64 3,.slice dU nd.set.length dV,zn .i64 nd.min,zn .i64 nd.max,zn .i64 nd.group] 125)=W0:=⟨_,rfl⟩;have bF:=xZ.start (cl:=cl) (cr:=cr) dB fg cQ hp ay;obtain⟨p0,p1,p2,p3⟩:=eu bF.cs.x0;obtain⟨q0,q1,q2,q3,q4⟩:=DL bF.x1;obtain⟨e0,e1⟩:=bF.kids hn;have fk:(0:Int)<=(n:Int):=by omega
 have cG:(n:Int)<(ns.length:Int):=by omega
 have du:prog.follows .mixedOrders=true:=by kernel_rfl
 rw[hL]at e0;rw[hR]at e1;have nL:eI (Pt.eA (cd ns x) (cd ns y))=eI (cd ns x)+eI (cd ns y)+1:=rfl;rw[nL]at hN ⊢;have mQ:iL (Pt.eA (cd ns x) (cd ns y))=(iL (cd ns x)).eA (iL (cd ns y)):=rfl;rw[mQ];have HR:=ag hR;clear nL mQ hL hR;have eF:=ag bF;have bQ:=ag ay;have HN:=ag hN;clear dB fg cQ hN bF ay bn wH hk cK hT
 go_enter func53,ntmps53
 go_upto_region 2 with fail
 rw[bQ.out];clear bQ c0 c1 c2 c3 c4
 go_upto_region 7 with fail
 refine Jo 7 (λw'=>∃n,w'=W0.drewN n) du ⟨1,rfl⟩ (by decide) (by kernel_rfl) ?_;intro os aX;simp only[gG,kQ]at aX;subst aX
 repeat (go_big_quiet_step (fail))
 refine wpQuiet_nil ?_;rintro w' ⟨nq,rfl⟩ r hr;simp only[rT,qi]at hr;subst hr
 go_wp2_with fail
 refine(hX p _ (zh ⟨b,o,za⟩) c gl cl gr cr nv bv Ns (eF.out.cs.br.keep (fq.drewN (p:=p) _ _)) (eF.out.cs.wt.drewN _) ((fq.drewN (p:=p) _ _).base eF.out.cs.bl hp) hp (by have:=HN.out;omega)).mono ?_;rintro e W1 ⟨mj,Ms,T,rfl,ng,kN,nP⟩;have uW:=eF.out.step hp ((fq.drewN _ nq).trans nP) ng;obtain⟨p0,p1,p2,p3⟩:=eu uW.cs.x0;obtain⟨q0,q1,q2,q3,q4⟩:=DL uW.x1;have e0:=(uW.cs.br.right);obtain⟨cs,f1,f2⟩:=uW.cs.br.right;have e1:W1.cell? ⟨gr,n,za⟩=zh (zn .i64 y):=by rw[show W1.cell? ⟨gr,n,za⟩=cs[n]? from dt _ _ _ _ _ _ f1,f2 n hn,HR.out]
 have fj:=ag uW;have tG:=ag kN;generalize cG:Ns.length+Ms.length-1=i1 at *;have lY:=ag cG;clear ng kN nP uW cG f1 f2 e0
 go_upto_region 8 with fail
 refine Jo 7 (λw'=>∃n,w'=W1.drewN n) du ⟨1,rfl⟩ (by decide) (by kernel_rfl) ?_;intro os aX;simp only[gG,kQ]at aX;subst aX
 repeat (go_big_quiet_step (fail))
 refine wpQuiet_nil ?_;rintro w' ⟨nq,rfl⟩ r hr;simp only[rT,qi]at hr;subst hr
 go_wp2_with fail
 refine(hY p _ (zh ⟨b,o,za⟩) c gl cl gr cr mj bv (Ns++Ms) (fj.out.cs.br.keep (fq.drewN (p:=p) _ _)) (fj.out.cs.wt.drewN _) ((fq.drewN (p:=p) _ _).base fj.out.cs.bl hp) hp (by have:=tG.out.len;have:=HN.out;rw[a6];omega)).mono ?_;rintro e W2 ⟨mX,Ls,U,rfl,nh,pA,oF⟩;have Fh:=fj.out.step hp ((fq.drewN _ nq).trans oF) nh;obtain⟨q0,q1,q2,q3,q4⟩:=DL Fh.x1;have Jl:=tG.out.eA pA;rw[lY.out]at Jl;have dT:(Ns++Ms++Ls).length<=8589934592:=by have:=tG.out.len;have:=pA.len;have:=HN.out;rw[a6,a6];omega
 have hlen:(Ns++Ms++Ls).length=Ns.length+(Ms++Ls++[(⟨111,i1,(Ns++Ms).length+Ls.length-1,zi za 0 0⟩:bO)]).length-1:=by rw[ze,jA,a6];rfl
 generalize fA:(Ns++Ms).length+Ls.length-1=i2 at *;have ca:=Ea p 111 i1 i2 za 0 0 W2 mX bv (Ns++Ms++Ls) nh dT;rw[hlen]at ca;generalize oy:Ns.length+(Ms++Ls++[(⟨111,i1,i2,zi za 0 0⟩:bO)]).length-1=i3 at *;have j7:=ag oy;have fS:=ag Fh;have Bo:=ag Jl;clear nh pA oF Fh fA oy Jl dT hlen
 go_wp2_with fail
 refine ca.mono ?_;rintro e W3 ⟨rfl,⟨AQ,F7⟩,FW⟩;clear ca;go_wp2;refine bw (v:=zn .i64 (i3:Int)) (by simp[results,results53,go_sem]) rfl ⟨AQ,Ms++Ls++[⟨111,i1,i2,zi za 0 0⟩],_,?_,?_,Bo.out,(fS.out.cs.kp.trans FW)⟩
 ·rw[j7.out]
 ·rw[<-jA,<-jA];exact F7
theorem zti(w0:zp)(ns:List aI)(n x:Nat)(hn:n<ns.length)(hk:dK ns n=5)(hT:cd ns n=.aH (cd ns x) (ns.getD n .zero).group)(hL:pD ns n=x)(hX:tJ w0 ns x):tJ w0 ns n:=by
 intro p w ao c gl cl gr cr nv bv Ns dB fg cQ hp hN;rw[hT]at hN ⊢;obtain⟨Rn,uS,hv,Lr,bn⟩:=dB.nodes;cases hv;obtain⟨b,o,sv,nd,rfl,Hn,Aj,c0,c1,c2,c3,c4,jr⟩:=bn.elem cQ hn;have cK:nd.kind=5:=by rw[<-hk];unfold dK;rw[Hn.out]
 rw[cK]at c0;obtain⟨dU,dV,Dz,hsm,wH⟩:=jr;subst Dz;have iU:b<w.heap.size:=fR Aj cQ.size;obtain⟨W0,ay⟩:∃W0,(w.alloc (zw #[zi (zh ⟨b,o,za⟩) ns.length c,zi (zh ⟨gl,0,za⟩) ns.length cl,zi (zh ⟨gr,0,za⟩) ns.length cr,.string ⟨#[]⟩] 110)).alloc (zw #[zn .i64 5,.slice dU nd.set.length dV,zn .i64 nd.min,zn .i64 nd.max,zn .i64 nd.group] 125)=W0:=⟨_,rfl⟩;have bF:=xZ.start (cl:=cl) (cr:=cr) dB fg cQ hp ay;obtain⟨p0,p1,p2,p3⟩:=eu bF.cs.x0;obtain⟨q0,q1,q2,q3,q4⟩:=DL bF.x1;obtain⟨e0,e1⟩:=bF.kids hn;have fk:(0:Int)<=(n:Int):=by omega
 have cG:(n:Int)<(ns.length:Int):=by omega
 have du:prog.follows .mixedOrders=true:=by kernel_rfl
 rw[hL]at e0;have nL:eI (Pt.aH (cd ns x) (ns.getD n .zero).group)=eI (cd ns x):=rfl;rw[nL]at hN ⊢;have mQ:iL (Pt.aH (cd ns x) (ns.getD n .zero).group)=iL (cd ns x):=rfl;rw[mQ];clear nL mQ hL;have eF:=ag bF;have bQ:=ag ay;have HN:=ag hN;clear dB fg cQ hN bF ay bn wH hk cK hT
 go_enter func53,ntmps53
 go_upto_region 2 with fail
 rw[bQ.out];clear bQ c0 c1 c2 c3 c4
 go_upto_region 14 with fail
 refine Jo 7 (λw'=>∃n,w'=W0.drewN n) du ⟨1,rfl⟩ (by decide) (by kernel_rfl) ?_;intro os aX;simp only[gG,kQ]at aX;subst aX
 repeat (go_big_quiet_step (fail))
 refine wpQuiet_nil ?_;rintro w' ⟨nq,rfl⟩ r hr;simp only[rT,qi]at hr;subst hr
 go_wp2_with fail
 refine(hX p _ (zh ⟨b,o,za⟩) c gl cl gr cr nv bv Ns (eF.out.cs.br.keep (fq.drewN (p:=p) _ _)) (eF.out.cs.wt.drewN _) ((fq.drewN (p:=p) _ _).base eF.out.cs.bl hp) hp HN.out).mono ?_;rintro e W1 ⟨mj,Ms,T,rfl,ng,kN,nP⟩;generalize cG:Ns.length+Ms.length-1=i1 at *;have lY:=ag cG;clear cG;go_wp2;exact bw (v:=zn .i64 (i1:Int)) (by simp[results,results53,go_sem]) rfl ⟨mj,Ms,T,by rw[lY.out],ng,kN,(eF.out.cs.kp.trans (fq.drewN _ nq)).trans nP⟩
theorem ztj(w0:zp)(ns:List aI)(n x:Nat)(hn:n<ns.length)(hk:dK ns n=4)(hT:cd ns n=.jX (cd ns x) (ns.getD n .zero).min (ns.getD n .zero).max)(hL:pD ns n=x)(hX:Et w0 ns x (ns.getD n .zero).min (ns.getD n .zero).max):tJ w0 ns n:=by
 intro p w ao c gl cl gr cr nv bv Ns dB fg cQ hp hN;rw[hT]at hN ⊢;obtain⟨Rn,uS,hv,Lr,bn⟩:=dB.nodes;cases hv;obtain⟨b,o,sv,nd,rfl,Hn,Aj,c0,c1,c2,c3,c4,jr⟩:=bn.elem cQ hn;have cK:nd.kind=4:=by rw[<-hk];unfold dK;rw[Hn.out]
 rw[cK]at c0;obtain⟨dU,dV,Dz,hsm,wH⟩:=jr;subst Dz;have iU:b<w.heap.size:=fR Aj cQ.size;obtain⟨W0,ay⟩:∃W0,(w.alloc (zw #[zi (zh ⟨b,o,za⟩) ns.length c,zi (zh ⟨gl,0,za⟩) ns.length cl,zi (zh ⟨gr,0,za⟩) ns.length cr,.string ⟨#[]⟩] 110)).alloc (zw #[zn .i64 4,.slice dU nd.set.length dV,zn .i64 nd.min,zn .i64 nd.max,zn .i64 nd.group] 125)=W0:=⟨_,rfl⟩;have bF:=xZ.start (cl:=cl) (cr:=cr) dB fg cQ hp ay;obtain⟨p0,p1,p2,p3⟩:=eu bF.cs.x0;obtain⟨q0,q1,q2,q3,q4⟩:=DL bF.x1;obtain⟨e0,e1⟩:=bF.kids hn;have fk:(0:Int)<=(n:Int):=by omega
 have cG:(n:Int)<(ns.length:Int):=by omega
 have du:prog.follows .mixedOrders=true:=by kernel_rfl
 rw[hL]at e0;have nL:eI (Pt.jX (cd ns x) (ns.getD n .zero).min (ns.getD n .zero).max)=o8 (eI (cd ns x)) (ns.getD n .zero).min (ns.getD n .zero).max:=rfl;rw[nL]at hN ⊢;have mQ:iL (Pt.jX (cd ns x) (ns.getD n .zero).min (ns.getD n .zero).max)=rJ (iL (cd ns x)) (ns.getD n .zero).min (ns.getD n .zero).max:=rfl;rw[mQ];rw[Hn.out]at hX hN ⊢;clear nL mQ hL;have eF:=ag bF;have bQ:=ag ay;have HN:=ag hN;clear dB fg cQ hN bF ay bn wH hk cK hT
 go_enter func53,ntmps53
 go_upto_region 2 with fail
 rw[bQ.out];clear bQ c0 c1 c2 c3 c4
 go_upto_region 13 with fail
 refine Jo 11 (λw'=>∃n,w'=W0.drewN n) du ⟨1,rfl⟩ (by decide) (by kernel_rfl) ?_;intro os aX;simp only[gG,kQ]at aX;subst aX
 repeat (go_big_quiet_step (fail))
 refine wpQuiet_nil ?_;rintro w' ⟨nq,rfl⟩ r hr;simp only[rT,qi]at hr;subst hr
 go_wp2_with fail
 refine(hX p _ (zh ⟨b,o,za⟩) c gl cl gr cr nv bv Ns (eF.out.cs.br.keep (fq.drewN (p:=p) _ _)) (eF.out.cs.wt.drewN _) ((fq.drewN (p:=p) _ _).base eF.out.cs.bl hp) hp HN.out).mono ?_;rintro e W1 ⟨mj,Ms,T,rfl,ng,kN,nP⟩;generalize cG:Ns.length+Ms.length-1=i1 at *;have lY:=ag cG;clear cG;go_wp2;exact bw (v:=zn .i64 (i1:Int)) (by simp[results,results53,go_sem]) rfl ⟨mj,Ms,T,by rw[lY.out],ng,kN,(eF.out.cs.kp.trans (fq.drewN _ nq)).trans nP⟩
theorem zqd(w0:zp)(ns:List aI)(ha:∀i,i<ns.length->aV (dK ns i)<=(aQ ns i).length)(hb:ns.all bG=true):∀n,n<ns.length->tJ w0 ns n:=by
 intro n
 induction n using Nat.strongRecOn with
 |ind n ih=>
  intro hn;have BW:bG (ns.getD n .zero)=true:=qQ.1 hb (ns.getD n .zero) (by
   rw[bI,bE hn];exact gy _)
  have pM:=ha n hn;have kj:dK ns n=(ns.getD n .zero).kind:=rfl
  by_cases h1:dK ns n=1
  ·refine ztl w0 ns n hn h1 ?_;unfold cd lB;rw[ae (by rw[<-kj];exact h1)]
  by_cases h2:dK ns n=2
  ·obtain⟨x,y,hL,hR,hx,hy,hT⟩:=zkZ (ns:=ns) (k:=n) (by rw[h2];rfl) (by rw[h2]at pM;exact pM);refine ztk w0 ns n x y hn h2 ?_ hL hR (ih x hx (by omega)) (ih y hy (by omega));rw[hT];unfold lB;rw[ab (by rw[<-kj];exact h1),ae (by rw[<-kj];exact h2)]
   rfl
  by_cases h3:dK ns n=3
  ·obtain⟨x,y,hL,hR,hx,hy,hT⟩:=zkZ (ns:=ns) (k:=n) (by rw[h3];rfl) (by rw[h3]at pM;exact pM);refine zth w0 ns n x y hn h3 ?_ hL hR (ih x hx (by omega)) (ih y hy (by omega));rw[hT];unfold lB;rw[ab (by rw[<-kj];exact h1),ab (by rw[<-kj];exact h2),ae (by rw[<-kj];exact h3)]
   rfl
  by_cases h4:dK ns n=4
  ·obtain⟨x,hL,hx,hT⟩:=zkY (ns:=ns) (k:=n) (by rw[h4];rfl) (by rw[h4]at pM;exact pM);have BR:ly (ns.getD n .zero).min (ns.getD n .zero).max=true:=by
    unfold bG at BW;rw[ab (by rw[<-kj];exact h1),ab (by rw[<-kj];exact λh=>h.elim h2 h3),ae (by rw[<-kj];exact h4)]at BW;simp only[fQ]at BW;exact BW.1.2
   generalize k8:(ns.getD n .zero).min=mn at *;generalize hmx:(ns.getD n .zero).max=mx at *;simp[ly]at BR;refine ztj w0 ns n x hn h4 ?_ hL ?_
   ·rw[hT,k8,hmx];unfold lB;rw[ab (by rw[<-kj];exact h1),ab (by rw[<-kj];exact h2),ab (by rw[<-kj];exact h3),ae (by rw[<-kj];exact h4),k8,hmx]
    rfl
   ·rw[k8,hmx]
    by_cases hm:mx=-1
    ·exact zh7 w0 ns x (ih x hx (by omega)) mn.toNat mn mx (by omega) (by omega) (by omega) (.inl ⟨hm,by omega⟩)
    ·exact zh7 w0 ns x (ih x hx (by omega)) mx.toNat mn mx (by omega) (by omega) (by omega) (.inr ⟨by omega,by omega⟩)
  have h5:dK ns n=5:=by
   by_cases h5:dK ns n=5
   ·exact h5
   ·exfalso
    unfold bG at BW;rw[ab (by rw[<-kj];exact h1),ab (by rw[<-kj];exact λh=>h.elim h2 h3),ab (by rw[<-kj];exact h4),ab (by rw[<-kj];exact h5)]at BW;cases BW
  obtain⟨x,hL,hx,hT⟩:=zkY (ns:=ns) (k:=n) (by rw[h5];rfl) (by rw[h5]at pM;exact pM);refine zti w0 ns n x hn h5 ?_ hL (ih x hx (by omega));rw[hT];unfold lB;rw[ab (by rw[<-kj];exact h1),ab (by rw[<-kj];exact h2),ab (by rw[<-kj];exact h3),ab (by rw[<-kj];exact h4)]
  rfl
end
variable {B gl cl gr cr g k:Nat}{w0 wr:zp}{ns:List aI}
structure jl(B:Nat)(w0 wr:zp)(ns:List aI)(gl cl gr cr g k:Nat):Prop where
 below:zy B w0 wr
 left:wr.ownsRow B 3 1 (zi (zh ⟨gl,0,za⟩) ns.length cl) ns.length (ui ns ns.length)
 right:wr.ownsRow B 3 1 (zi (zh ⟨gr,0,za⟩) ns.length cr) ns.length (uj ns ns.length)
 LS:∃xs,wr.ownsRow B 3 1 (zi (zh ⟨g,0,za⟩) ns.length ns.length) ns.length xs/\∀j,j<k->xs[j]?=zh (zn .i64 (fh ns j))
 Pe:gl≠g
 Pk:gr≠g
 base:B<=wr.heap.size
theorem jl.same{w1:zp}(h:jl B w0 wr ns gl cl gr cr g k)(hb:zy wr.heap.size wr w1):jl B w0 w1 ns gl cl gr cr g k:=
 ⟨bi h.below h.base hb,jy h.left hb,jy h.right hb,by obtain⟨xs,h1,h2⟩:=h.LS;exact⟨xs,jy h1 hb,h2⟩,h.Pe,h.Pk,cM h.base hb.size⟩
theorem jl.alloc(h:jl B w0 wr ns gl cl gr cr g k)(o:Obj):jl B w0 (wr.alloc o) ns gl cl gr cr g k:=h.same (aC)
theorem jl.drew(h:jl B w0 wr ns gl cl gr cr g k):jl B w0 wr.drew ns gl cl gr cr g k:=h.same (Below.refl _ _).drew
theorem jl.store(h:jl B w0 wr ns gl cl gr cr g k)(u:zx):jl B w0 (wr.setCell ⟨g,k,za⟩ u) ns gl cl gr cr g k:=by
 obtain⟨xs,h1,h2⟩:=h.LS;obtain⟨s1,s2⟩:=h1.stored k u;refine⟨h.below.setCell (nW h1).1 _,s7 h.left s2 h.Pe,s7 h.right s2 h.Pk,⟨_,s1,λj hj=>?_⟩,h.Pe,h.Pk,by simpa [World.setCell]using h.base⟩;rw[List.getElem?_set_ne (by omega)];exact h2 j hj
theorem jl.put(h:jl B w0 wr ns gl cl gr cr g k)(hk:k<ns.length){u:Int}(hu:u=fh ns k):jl B w0 (wr.setCell ⟨g,k,za⟩ (zn .i64 u)) ns gl cl gr cr g (k+1):=by
 subst hu;obtain⟨xs,h1,h2⟩:=h.LS;obtain⟨s1,s2⟩:=h1.stored k (zn .i64 (fh ns k));refine⟨h.below.setCell (nW h1).1 _,s7 h.left s2 h.Pe,s7 h.right s2 h.Pk,⟨_,s1,λj hj=>?_⟩,h.Pe,h.Pk,by simpa [World.setCell]using h.base⟩
 by_cases e:j=k
 ·subst e;rw[List.getElem?_set_self (by have:=h1.1;omega)]
 ·rw[List.getElem?_set_ne (by omega)];exact h2 j (by omega)
theorem jl.vZ(h:jl B w0 wr ns gl cl gr cr g k){j:Nat}(hj:j<k)(hn:j<ns.length):wr.cell? ⟨g,j,za⟩=zh (zn .i64 (fh ns j)):=by
 obtain⟨xs,h1,h2⟩:=h.LS;rw[h1.cellAt j (by omega)];exact h2 j hj
theorem jl.zwl(h:jl B w0 wr ns gl cl gr cr g k)(hn:k<ns.length):(∃u,wr.cell? ⟨g,k,za⟩=zh u)/\wr.frozen? ⟨g,k,za⟩=false:=by
 obtain⟨xs,h1,h2⟩:=h.LS;exact⟨PW h1 (by omega),h1.frozenAt k⟩
theorem jl.NC(h:jl B w0 wr ns gl cl gr cr g k)(hn:k<ns.length):wr.cell? ⟨gl,k,za⟩=zh (zn .i64 (pD ns k)):=by
 rw[h.left.cellAt k (by omega)];simp[ui,hn]
theorem jl.WO(h:jl B w0 wr ns gl cl gr cr g k)(hn:k<ns.length):wr.cell? ⟨gr,k,za⟩=zh (zn .i64 (vy ns k)):=by
 rw[h.right.cellAt k (by omega)];simp[uj,hn]
theorem jl.lt(h:jl B w0 wr ns gl cl gr cr g k):gl<wr.heap.size/\gr<wr.heap.size/\g<wr.heap.size:=by
 obtain⟨xs,h1,h2⟩:=h.LS;exact⟨uw h.left,uw h.right,uw h1⟩
theorem zmy(ha:aV (dK ns k)=2)(hl:2<=(aQ ns k).length):∃x y:Nat,pD ns k=x/\vy ns k=y/\x<k/\y<k/\(fW ns k).drop ((fW ns k).length-2)=[fh ns x,fh ns y]:=by
 have hm:∀j,j<(aQ ns k).length->(aQ ns k).getD j 0<k:=λj hj=>Qr ns k _ (by
  rw[bI,bE hj];exact gy _)
 refine⟨(aQ ns k).getD ((aQ ns k).length-2) 0,(aQ ns k).getD ((aQ ns k).length-1) 0,?_,?_,hm _ (by omega),hm _ (by omega),?_⟩
 ·rw[pD,ha,ab (by omega)]
 ·rw[vy,ae ha]
 ·have hw:=P9 ns k;have e1:=Uo ns k ((aQ ns k).length-2) (by omega);have e2:=Uo ns k ((aQ ns k).length-1) (by omega);rw[<-e1,<-e2];apply tz;intro i;rw[En]
  match i with
  |0=>rw[hw,xJ,bE (by omega)];simp[List.getD_eq_getElem?_getD,List.getElem?_eq_getElem (show (aQ ns k).length-2<(fW ns k).length by omega)]
  |1=>rw[hw,show (aQ ns k).length-2+1=(aQ ns k).length-1 by omega,bE (by omega)];simp[List.getD_eq_getElem?_getD,List.getElem?_eq_getElem (show (aQ ns k).length-1<(fW ns k).length by omega)]
  |i+2=>rw[qR (by omega)];simp
theorem zmw(ha:aV (dK ns k)=1)(hl:1<=(aQ ns k).length):∃x:Nat,pD ns k=x/\x<k/\((fW ns k).drop ((fW ns k).length-1)).getD 0 0=fh ns x:=by
 have hm:∀j,j<(aQ ns k).length->(aQ ns k).getD j 0<k:=λj hj=>Qr ns k _ (by
  rw[bI,bE hj];exact gy _)
 refine⟨(aQ ns k).getD ((aQ ns k).length-1) 0,?_,hm _ (by omega),?_⟩
 ·rw[pD,ha,ab (by omega)]
 ·rw[zmo,P9];exact Uo ns k ((aQ ns k).length-1) (by omega)
end Go.Proofs.Ytfajjdgkiilhfaa
