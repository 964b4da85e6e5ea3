import Derived.Test.YtfajjdgkiilhfaaGreatDoorC16
import Derived.Deep.RegionLaw
import Derived.Deep.RegionHeld3
import Derived.Deep.DrawnRows
namespace Go.Proofs.YtfajjdgkiilhfaaGreatDoor
open Proofs.Tryz
open Option renaming none->za,some->zb
open Value renaming slice->zc,int->zd,agg->zi,pointer->zl
open Go renaming World->ze,Value->zg,TypeId->zj,Calls->zm
open Obj renaming cells->zf
open RowKit renaming Below->zh
set_option maxHeartbeats 2000000
set_option maxRecDepth 100000
open Go.RowKit
attribute [local go_sem ↓] wp_at_zero wp_at_succ
section
variable {Ns Ms Ls:List bB}{T a b U:GT}{lo hi m l k r j p:Nat}{sv nv bv:zg}{w0 w W:ze}{M N:GA}
def o6(c:Nat)(mn mx:Int):Nat:=if mx=-1 then mn.toNat*(c+1)+(c+1) else mn.toNat*(c+1)+(mx-mn).toNat*(c+3)+1
def dO:Pt->Nat
 |.set _=>1
 |.seq l r=>dO l+dO r+1
 |.eH l r=>dO l+dO r+1
 |.jI b mn mx=>o6 (dO b) mn mx
 |.dX b _=>dO b
structure kj(Ns:List bB)(T:GT)(lo hi:Nat):Prop where
 zN:∀i,i<T.ga.n->lo<=T.at i/\T.at i<hi
 inj:∀i j,i<T.ga.n->j<T.ga.n->T.at i=T.at j->i=j
 all:∀(x:Nat) (d:bB),lo<=x->x<hi->Ns[x]?=zb d->(d.k=115/\∃i,i<T.ga.n/\T.at i=x)\/(d.k≠115/\d.k<256/\d.sv=zc za 0 0)
theorem kj.more(h:kj Ns T lo hi)(Ms:List bB)(hl:hi<=Ns.length):kj (Ns++Ms) T lo hi:=
 ⟨h.zN,h.inj,λx d h1 h2 h3=>h.all x d h1 h2 (by rw[vp (by omega)]at h3;exact h3)⟩
theorem kj.leaf{f:Nat->Bool}(hx:Ns[lo]?=zb ⟨115,0,0,sv⟩):kj Ns (.s lo f) lo (lo+1):=by
 refine⟨λi hi=>?_,λi j hi hj _=>?_,λx d h1 h2 h3=>?_⟩
 ·have hi:i<1:=hi;obtain rfl:i=0:=by omega
  exact⟨aq _,FG _⟩
 ·have hi:i<1:=hi;have hj:j<1:=hj;omega
 ·obtain rfl:x=lo:=by omega
  rw[hx]at h3;cases h3;exact .inl ⟨rfl,0,Nat.zero_lt_one,rfl⟩
theorem kj.E6(hx:Ns[lo]?=zb ⟨101,0,0,zc za 0 0⟩):kj Ns .e lo (lo+1):=by
 refine⟨λi hi=>absurd hi (by simp[GT.ga,GA.xB]),λi j hi=>absurd hi (by simp[GT.ga,GA.xB]),λx d h1 h2 h3=>?_⟩;obtain rfl:x=lo:=by omega
 rw[hx]at h3;cases h3;exact .inr ⟨by decide,by decide,rfl⟩
theorem kj.star(h:kj Ns a lo m)(hx:Ns[m]?=zb ⟨42,l,0,zc za 0 0⟩):kj Ns (.st a) lo (m+1):=by
 refine⟨λi hi=>?_,h.inj,λx d h1 h2 h3=>?_⟩
 ·have:=h.zN i hi;exact⟨this.1,Nat.lt_succ_of_lt this.2⟩
 ·rcases iX x m with q|q
  ·exact h.all x d h1 q h3
  ·obtain rfl:x=m:=by omega
   rw[hx]at h3;cases h3;exact .inr ⟨by show (42:Nat)≠115;decide,by show (42:Nat)<256;decide,rfl⟩
theorem ztG(hn:T.ga.n=a.ga.n+b.ga.n)(hL:T.cK=a.cK++b.cK)(ha:kj Ns a lo m)(hb:kj Ns b m hi)(hk:k≠115)(bu:k<256)(nJ:lo<=m)(RY:m<=hi)(hx:Ns[hi]?=zb ⟨k,l,r,zc za 0 0⟩):kj Ns T lo (hi+1):=by
 have pJ:∀i,i<a.ga.n->T.at i=a.at i:=λi h=>by unfold GT.at;rw[hL];exact wQ h
 have jb:∀i,T.at (a.ga.n+i)=b.at i:=λi=>by unfold GT.at;rw[hL];exact Af i
 refine⟨λi lJ=>?_,λi j lJ hj' he=>?_,λx d h1 h2 h3=>?_⟩
 ·rcases Ip a.ga.n i with h|⟨t,rfl⟩
  ·rw[pJ i h];have:=ha.zN i h;omega
  ·rw[jb];have:=hb.zN t (by omega);omega
 ·rcases Ip a.ga.n i with h|⟨t,rfl⟩<;>rcases Ip a.ga.n j with h'|⟨t',rfl⟩
  ·rw[pJ i h,pJ j h']at he;exact ha.inj i j h h' he
  ·rw[pJ i h,jb]at he;have:=ha.zN i h;have:=hb.zN t' (by omega);omega
  ·rw[jb,pJ j h']at he;have:=ha.zN j h';have:=hb.zN t (by omega);omega
  ·rw[jb,jb]at he;have:=hb.inj t t' (by omega) (by omega) he;omega
 ·rcases iX x m with q|q
  ·rcases ha.all x d h1 q h3 with ⟨e,i,dg,pg⟩|e
   ·exact .inl ⟨e,i,by omega,by rw[pJ i dg];exact pg⟩
   ·exact .inr e
  ·rcases iX x hi with q2|q2
   ·rcases hb.all x d q q2 h3 with ⟨e,i,dg,pg⟩|e
    ·exact .inl ⟨e,a.ga.n+i,by omega,by rw[jb];exact pg⟩
    ·exact .inr e
   ·obtain rfl:x=hi:=by omega
    rw[hx]at h3;cases h3;exact .inr ⟨hk,bu,rfl⟩
theorem kj.seq(ha:kj Ns a lo m)(hb:kj Ns b m hi)(nJ:lo<=m)(RY:m<=hi)(hx:Ns[hi]?=zb ⟨113,l,r,zc za 0 0⟩):kj Ns (.q a b) lo (hi+1):=ztG rfl rfl ha hb (by decide) (by decide) nJ RY hx
theorem kj.eH(ha:kj Ns a lo m)(hb:kj Ns b m hi)(nJ:lo<=m)(RY:m<=hi)(hx:Ns[hi]?=zb ⟨111,l,r,zc za 0 0⟩):kj Ns (.o a b) lo (hi+1):=ztG rfl rfl ha hb (by decide) (by decide) nJ RY hx
structure jU(w0:ze)(Ns Ms:List bB)(M:GA)(k:Nat)(T:GT):Prop where
 at_:mB w0 (Ns++Ms) T (Ns.length+Ms.length-1)
 ga:T.ga=M
 lb:kj (Ns++Ms) T Ns.length (Ns.length+Ms.length)
 len:Ms.length=k
 pos:0<k
theorem yc(l:List bB)(d:bB):(l++[d]).length=l.length+1:=by simp
theorem zqs(Ns Ms:List bB)(d:bB):(Ns++(Ms++[d]))[Ns.length+Ms.length]?=zb d:=by
 rw[<-gJ,Ap (by simp)];simp
theorem jU.leaf{rs:List (Int×Int)}(hr:nr 0 w0 sv rs):jU w0 Ns [⟨115,0,0,sv⟩] (.one (tI rs)) 1 (.s Ns.length (tI rs)):=by
 have hx:(Ns++[(⟨115,0,0,sv⟩:bB)])[Ns.length]?=zb ⟨115,0,0,sv⟩:=by simp
 exact⟨⟨by simp,sv,rs,by simp,hr,λ_=>rfl⟩,rfl,kj.leaf hx,rfl,Nat.zero_lt_one⟩
theorem jU.E6:jU w0 Ns [⟨101,0,0,zc za 0 0⟩] (.xB true) 1 .e:=by
 have hx:(Ns++[(⟨101,0,0,zc za 0 0⟩:bB)])[Ns.length]?=zb ⟨101,0,0,zc za 0 0⟩:=by simp
 refine⟨?_,rfl,kj.E6 hx,rfl,Nat.zero_lt_one⟩;show (Ns++[_])[Ns.length+1-1]?=_;simp
theorem jU.star(h:jU w0 Ns Ms M k T):jU w0 Ns (Ms++[⟨42,Ns.length+Ms.length-1,0,zc za 0 0⟩]) M.star (k+1) (.st T):=by
 have hx:=zqs Ns Ms ⟨42,Ns.length+Ms.length-1,0,zc za 0 0⟩;have hm:mB w0 (Ns++(Ms++[(⟨42,Ns.length+Ms.length-1,0,zc za 0 0⟩:bB)])) T (Ns.length+Ms.length-1):=by rw[<-gJ];exact h.at_.more _
 have hb:kj (Ns++(Ms++[(⟨42,Ns.length+Ms.length-1,0,zc za 0 0⟩:bB)])) T Ns.length (Ns.length+Ms.length):=by rw[<-gJ];exact h.lb.more _ (by simp)
 refine⟨⟨_,?_,hm⟩,by show T.ga.star=_;rw[h.ga],?_,by simp[h.len],by omega⟩
 ·rw[show Ns.length+(Ms++[(⟨42,Ns.length+Ms.length-1,0,zc za 0 0⟩:bB)]).length-1=Ns.length+Ms.length by simp];exact hx
 ·rw[show Ns.length+(Ms++[(⟨42,Ns.length+Ms.length-1,0,zc za 0 0⟩:bB)]).length=Ns.length+Ms.length+1 by simp;omega];exact hb.star hx
theorem zr3(h:jU w0 Ns Ms M k T)(g:jU w0 (Ns++Ms) Ls N j U)(d:bB):
  (Ns++(Ms++Ls++[d]))[Ns.length+(Ms++Ls).length]?=zb d/\mB w0 (Ns++(Ms++Ls++[d])) T (Ns.length+Ms.length-1)/\mB w0 (Ns++(Ms++Ls++[d])) U ((Ns++Ms).length+Ls.length-1)/\
   kj (Ns++(Ms++Ls++[d])) T Ns.length (Ns.length+Ms.length)/\kj (Ns++(Ms++Ls++[d])) U (Ns.length+Ms.length) (Ns.length+(Ms++Ls).length):=by
 have e:Ns++(Ms++Ls++[d])=((Ns++Ms)++Ls)++[d]:=by simp
 have e2:Ns++(Ms++Ls++[d])=(Ns++Ms)++(Ls++[d]):=by simp
 refine⟨zqs Ns (Ms++Ls) d,?_,?_,?_,?_⟩
 ·rw[e2];exact h.at_.more _
 ·rw[e];exact g.at_.more _
 ·rw[e2];exact h.lb.more _ (by simp)
 ·have:=g.lb.more [d] (by simp;omega);rw[e];rw[aQ,<-yC];rw[aQ]at this;exact this
theorem jU.seq(h:jU w0 Ns Ms M k T)(g:jU w0 (Ns++Ms) Ls N j U):jU w0 Ns (Ms++Ls++[⟨113,Ns.length+Ms.length-1,(Ns++Ms).length+Ls.length-1,zc za 0 0⟩]) (M.seq N) (k+j+1) (.q T U):=by
 obtain⟨hx,h1,h2,h3,h4⟩:=zr3 h g ⟨113,Ns.length+Ms.length-1,(Ns++Ms).length+Ls.length-1,zc za 0 0⟩;refine⟨⟨_,_,?_,h1,h2⟩,by show T.ga.seq U.ga=_;rw[h.ga,g.ga],?_,by rw[aQ,aQ,h.len,g.len];rfl,by omega⟩
 ·rw[show Ns.length+(Ms++Ls++[(⟨113,Ns.length+Ms.length-1,(Ns++Ms).length+Ls.length-1,zc za 0 0⟩:bB)]).length-1=Ns.length+(Ms++Ls).length by rw[yc];rfl];exact hx
 ·rw[show Ns.length+(Ms++Ls++[(⟨113,Ns.length+Ms.length-1,(Ns++Ms).length+Ls.length-1,zc za 0 0⟩:bB)]).length=Ns.length+(Ms++Ls).length+1 by rw[yc];rfl];exact h3.seq h4 (by omega) (by simp) hx
theorem jU.eH(h:jU w0 Ns Ms M k T)(g:jU w0 (Ns++Ms) Ls N j U):jU w0 Ns (Ms++Ls++[⟨111,Ns.length+Ms.length-1,(Ns++Ms).length+Ls.length-1,zc za 0 0⟩]) (M.eH N) (k+j+1) (.o T U):=by
 obtain⟨hx,h1,h2,h3,h4⟩:=zr3 h g ⟨111,Ns.length+Ms.length-1,(Ns++Ms).length+Ls.length-1,zc za 0 0⟩;refine⟨⟨_,_,?_,h1,h2⟩,by show T.ga.eH U.ga=_;rw[h.ga,g.ga],?_,by rw[aQ,aQ,h.len,g.len];rfl,by omega⟩
 ·rw[show Ns.length+(Ms++Ls++[(⟨111,Ns.length+Ms.length-1,(Ns++Ms).length+Ls.length-1,zc za 0 0⟩:bB)]).length-1=Ns.length+(Ms++Ls).length by rw[yc];rfl];exact hx
 ·rw[show Ns.length+(Ms++Ls++[(⟨111,Ns.length+Ms.length-1,(Ns++Ms).length+Ls.length-1,zc za 0 0⟩:bB)]).length=Ns.length+(Ms++Ls).length+1 by rw[yc];rfl];exact h3.eH h4 (by omega) (by simp) hx
def EU(Ns:List bB):List zg:=Ns.flatMap Ob
theorem zsX(Ns:List bB)(d:bB):EU (Ns++[d])=EU Ns++Ob d:=by simp[EU]
structure jV(p:Nat)(W:ze)(nv bv:zg)(Ns:List bB):Prop where
 box:W.heap[p]?=zb (zf #[nv,bv] 89 (0,0))
 own:W.ownsRow (p+1) 124 4 nv Ns.length (EU Ns)
structure fy(p:Nat)(w W:ze):Prop where
 os:W.os=w.os
 tape:W.tape=w.tape
 output:W.output=w.output
 size:w.heap.size<=W.heap.size
 low:∀k,k<p->W.heap[k]?=w.heap[k]?
 E3:∀(k:Nat) (cs:Array zg) (t:zj),w.heap[k]?=zb (zf cs t (0,0))->t≠89->t≠124->W.heap[k]?=zb (zf cs t (0,0))
theorem fy.trans{a b c:ze}(h:fy p a b)(k:fy p b c):fy p a c:=
 ⟨k.os.trans h.os,k.tape.trans h.tape,k.output.trans h.output,cY h.size k.size,λi hi=>(k.low i hi).trans (h.low i hi),λi cs t e h1 h2=>k.E3 i cs t (h.E3 i cs t e h1 h2) h1 h2⟩
theorem fy.k8(hB:p<=w.heap.size)(h:zh w.heap.size w W):fy p w W:=
 ⟨h.os,h.tape,h.output,h.size,λk hk=>h.block k (by omega),λk cs t e _ _=>(h.block k (ay e)).trans e⟩
theorem jV.below{W':ze}(h:jV p W nv bv Ns)(hb:zh W.heap.size W W'):jV p W' nv bv Ns:=
 ⟨(hb.block p (ay h.box)).trans h.box,ub h.own λb kT=>hb.block b (dU h.own kT).2⟩
theorem jV.form(h:jV p W nv bv Ns):∃ao cap,nv=.slice ao Ns.length cap:=by
 rcases h.own.2 with ⟨h,h0⟩|⟨g,cap,_,h,_⟩
 ·exact⟨za,0,by rw[h,h0]⟩
 ·exact⟨_,_,h⟩
theorem OD{a b:Array zg}{t u:zj}{f g:Nat×Nat}(h:zb (Obj.cells a t f)=zb (Obj.cells b u g)):t=u:=by cases h;rfl
theorem KW{B n sz:Nat}{e:zj}{v:zg}{xs:List zg}(h:w.ownsRow B e sz v n xs){b:Nat}(hb:v.ownBlock=zb b):∃aZ:Array zg,w.heap[b]?=zb (zf aZ e (0,0)):=by
 rcases h.2 with ⟨rfl,_⟩|⟨g,cap,aZ,rfl,_,hh,_⟩
 ·simp[Value.ownBlock]at hb
 ·simp[Value.ownBlock]at hb;subst hb;exact⟨aZ,hh⟩
theorem jV.zAy{W1 W9:ze}{d:bB}{g cap:Nat}(h:jV p W nv bv Ns)(hb:zh W.heap.size W W1)(lQ:W9.ownsRow (p+1) 124 4 (zc (zb ⟨g,0,za⟩) (Ns.length+1) cap) (Ns.length+1) (EU Ns++Ob d))(eK:W1.grownBy W9 nv.ownBlock):
  W9.heap[p]?=zb (zf #[nv,bv] 89 (0,0))/\jV p (W9.setCell ⟨p,0,za⟩ (zc (zb ⟨g,0,za⟩) (Ns.length+1) cap)) (zc (zb ⟨g,0,za⟩) (Ns.length+1) cap) bv (Ns++[d])/\fy p W (W9.setCell ⟨p,0,za⟩ (zc (zb ⟨g,0,za⟩) (Ns.length+1) cap)):=by
 have h1:=h.below hb;have hlt:=ay h1.box;have hne:nv.ownBlock≠zb p:=λe=>by have:=(dU h1.own e).1;omega
 have dk:W9.heap[p]?=zb (zf #[nv,bv] 89 (0,0)):=(eK.block p hlt (λe=>hne e.symm)).trans h1.box;have Sz:∀(k:Nat) (cs:Array zg) (t:zj),W.heap[k]?=zb (zf cs t (0,0))->t≠124->W9.heap[k]?=zb (zf cs t (0,0)):=λk cs t e ht=>by
  have e1:=(hb.block k (ay e)).trans e;refine(eK.block k (ay e1) (λe2=>?_)).trans e1;obtain⟨aZ,e3⟩:=KW h1.own e2.symm;rw[e1]at e3;exact ht (OD e3)
 have Yn:=TB W9 p 0 (zc (zb ⟨g,0,za⟩) (Ns.length+1) cap);refine⟨dk,⟨?_,?_⟩,⟨eK.os.trans hb.os,eK.tape.trans hb.tape,eK.output.trans hb.output,?_,?_,?_⟩⟩
 ·have:=cJ W9 p 0 _ _ (zc (zb ⟨g,0,za⟩) (Ns.length+1) cap) dk;exact this
 ·rw[zsX,aQ,IK];refine ub lQ λb kT=>?_
  have:=(dU lQ kT).1;exact bh _ _ _ _ (by simp;omega)
 ·exact cY hb.size (cY eK.size Yn.size)
 ·intro k hk;rw[bh _ _ _ _ (by simp;omega)];have e1:W1.heap[k]?=W.heap[k]?:=hb.block k (by have:=ay h.box;omega);rw[<-e1];exact eK.block k (by omega) (λe=>by have:=(dU h1.own e.symm).1;omega)
 ·intro k cs t e tQ xS;have e9:=Sz k cs t e xS;refine(bh _ _ _ _ (λe2=>?_)).trans e9;simp at e2;subst e2;rw[dk]at e9;exact tQ (OD e9).symm
end
theorem Tryz.zCo:(prog.info? 124).map (λi=>(i.zero,i.size,i.bytes))=zb (zb (zi #[.int .u8 0,zd .i64 0,zd .i64 0,zc za 0 0]),4,48):=by kernel_rfl
theorem zlv{w:ze}{B:Nat}{a b c d:zg}{t:zj}(h:w.heap[B]?=zb (zf #[a,b,c,d] t (0,0))):∀j u,[a,b,c,d][j]?=zb u->w.cell? ((⟨B,0,za⟩:Addr).add j)=zb u:=World.news_of_block h
theorem Db(p k l r:Nat)(so:Option Addr)(sn sc:Nat)(w:ze)(nv bv:zg)(Ns:List bB)(hW:jV p w nv bv Ns)(hN:Ns.length<=8589934592):
  zm prog 88 #[zl (zb ⟨p,0,za⟩),zi #[.int .u8 k,zd .i64 l,zd .i64 r,.slice so sn sc]] w λe W=>e=.returned (zd .i64 Ns.length)/\(∃sF,jV p W sF bv (Ns++[⟨k,l,r,.slice so sn sc⟩]))/\fy p w W:=by
 obtain⟨i0,hi,da,dt,cR⟩:=info_parts Tryz.zCo;obtain⟨ao,cap,rfl⟩:=hW.form;have hlt:=ay hW.box;have hpB:p+1<=w.heap.size:=hlt;have bL:∀W1,zh w.heap.size w W1->W1.ownsRow (p+1) 124 4 (.slice ao Ns.length cap) Ns.length (EU Ns):=λW1 hb=>(hW.below hb).own
 obtain⟨W0,aw⟩:∃W0,w.alloc (zf #[.int .u8 k,zd .i64 l,zd .i64 r,.slice so sn sc] 124)=W0:=⟨_,rfl⟩;have b0:zh w.heap.size w W0:=by rw[<-aw];exact ax
 have x0:W0.heap[w.heap.size]?=zb (zf #[.int .u8 k,zd .i64 l,zd .i64 r,.slice so sn sc] 124 (0,0)):=by rw[<-aw];exact aJ _ _
 have s0:W0.heap.size=w.heap.size+1:=by rw[<-aw];simp
 obtain⟨q0,q1,q2,q3⟩:=eG x0;obtain⟨p0,p1⟩:=dV ((b0.block p hlt).trans hW.box);have Rm:∀W1 W9 g oY,zh w.heap.size w W1->W9.ownsRow (p+1) 124 4 (zc (zb ⟨g,0,za⟩) (Ns.length+1) oY) (Ns.length+1) (EU Ns++[.int .u8 k,zd .i64 l,zd .i64 r,.slice so sn sc])->W1.grownBy W9 (Value.slice ao Ns.length cap).ownBlock->_:=λW1 W9 g oY h1 h2 h3=>hW.zAy (d:=⟨k,l,r,.slice so sn sc⟩) h1 h2 h3
 have bD:=ag aw;have HW:=ag hW;have gX:=ag b0;have HAD:=ag Rm;have pj:w.heap.size<=W0.heap.size:=b0.size;have du:p<W0.heap.size:=by omega
 clear aw hW x0 b0 Rm s0
 go_enter func88,ntmps88
 go_upto_region 1 with fail
 rw[bD.out];clear bD
 go_region_law ((refine step_append_lies _ (by rfl) (.tmp 9) (.tmp 11) 86 (by rfl) (p+1) 124 i0 _ 4 48 underlying86 hi da dt cR rfl (by omega) (.slice ao Ns.length cap) Ns.length (EU Ns) (by rfl) (bL _ (by first|exact(gX.out.drew.alloc (by show _<=W0.heap.size;omega) _)|exact(gX.out.alloc (by omega) _).drew)) ⟨W0.heap.size,0,za⟩ 1 1 [.int .u8 k,zd .i64 l,zd .i64 r,.slice so sn sc] (by rfl) rfl (zlv (by first|exact aJ _ _|exact sL (aJ _ _))) (by intro u hu;simp at hu;rcases hu with rfl|rfl|rfl|rfl<;>rfl) (by omega) (by unfold maxLen;omega) (by omega) (by simp;omega) (W0.heap.size+1) (by simp) ?_;intro g oY w9 lQ eK at9 CF;obtain⟨Jl,Zs,kp9⟩:=HAD.out _ w9 g oY (by first|exact(gX.out.drew.alloc (by show _<=W0.heap.size;omega) _)|exact(gX.out.alloc (by omega) _).drew) lQ eK;obtain⟨y0,y1⟩:=dV Jl;have f9:=aM _ _ 0 _ _ Jl))
 all_goals
  have z9:=(dV Zs.box).1;have HT9:=ag Zs;have HK9:=ag kp9;generalize MW:w9.setCell ⟨p,0,za⟩ (zc (zb ⟨g,0,za⟩) (Ns.length+1) oY)=W9 at *;clear MW Zs kp9 lQ eK at9 CF Jl y0 y1 f9 p0 p1 q0 q1 q2 q3;have AW:IntKind.i64.wrap ((Ns.length:Int)+1-1)=(Ns.length:Int):=by rw[IntKind.wrap_i64];omega
  go_wp2;refine aW (v:=zd .i64 Ns.length) (by simp[results,results88,go_sem]) rfl ⟨rfl,⟨_,HT9.out⟩,HK9.out⟩
section
variable {w0 W W' w:ze}{ns:List aC}{gl gr p c cl cr:Nat}{ao:Option Addr}{nv bv:zg}{Ns:List bB}
structure Ar(w0 W:ze)(ns:List aC)(vn:zg)(gl gr:Nat):Prop where
 nodes:og 0 w0 vn ns
 left:∃cs,W.heap[gl]?=zb (zf cs 3 (0,0))/\∀i,i<ns.length->cs[i]?=zb (zd .i64 (pw ns i))
 right:∃cs,W.heap[gr]?=zb (zf cs 3 (0,0))/\∀i,i<ns.length->cs[i]?=zb (zd .i64 (ve ns i))
theorem Ar.keep{vn:zg}(h:Ar w0 W ns vn gl gr)(k:fy p W W'):Ar w0 W' ns vn gl gr:=by
 obtain⟨h1,⟨cs,h2,h3⟩,D6,h4,h5⟩:=h;exact⟨h1,⟨cs,k.E3 _ _ _ h2 (by decide) (by decide),h3⟩,D6,k.E3 _ _ _ h4 (by decide) (by decide),h5⟩
theorem fy.base(k:fy p w W)(hb:zh w0.heap.size w0 w)(hp:w0.heap.size<=p):zh w0.heap.size w0 W:=
 ⟨k.os.trans hb.os,k.tape.trans hb.tape,k.output.trans hb.output,cY hb.size k.size,λi hi=>(k.low i (by omega)).trans (hb.block i hi)⟩
def WtR(w0:ze)(p:Nat)(w:ze)(bv:zg)(Ns:List bB)(M:GA)(k:Nat)(e:Ending)(W:ze):Prop:=
 ∃nv Ms T,e=.returned (zd .i64 ((Ns.length+Ms.length-1:Nat):Int))/\jV p W nv bv (Ns++Ms)/\jU w0 Ns Ms M k T/\fy p w W
def tw(w0:ze)(ns:List aC)(n:Nat):Prop:=∀(p:Nat) (w:ze) (ao:Option Addr) (c gl cl gr cr:Nat) (nv bv:zg) (Ns:List bB),Ar w0 w ns (.slice ao ns.length c) gl gr->jV p w nv bv Ns->zh w0.heap.size w0 w->w0.heap.size<=p->Ns.length+dO (bV ns n)<=8589934592->
 zm prog 67 #[zl (zb ⟨p,0,za⟩),zi #[.slice ao ns.length c,zc (zb ⟨gl,0,za⟩) ns.length cl,zc (zb ⟨gr,0,za⟩) ns.length cr,.string ⟨#[]⟩],zd .i64 n] w λe W=>WtR w0 p w bv Ns (iG (bV ns n)) (dO (bV ns n)) e W
structure vq(w0:ze)(p:Nat)(w W:ze)(ns:List aC)(ao:Option Addr)(c gl cl gr cr:Nat)(nv bv:zg)(Ns:List bB):Prop where
 br:Ar w0 W ns (.slice ao ns.length c) gl gr
 wt:jV p W nv bv Ns
 kp:fy p w W
 bl:zh w0.heap.size w0 W
 x0:W.heap[w.heap.size]?=zb (zf #[.slice ao ns.length c,zc (zb ⟨gl,0,za⟩) ns.length cl,zc (zb ⟨gr,0,za⟩) ns.length cr,.string ⟨#[]⟩] 118 (0,0))
theorem vq.step{sF:zg}{Ms:List bB}(h:vq w0 p w W ns ao c gl cl gr cr nv bv Ns)(hp:w0.heap.size<=p)(k:fy p W W')(hw:jV p W' sF bv Ms):vq w0 p w W' ns ao c gl cl gr cr sF bv Ms:=
 ⟨h.br.keep k,hw,h.kp.trans k,k.base h.bl hp,k.E3 _ _ _ h.x0 (by decide) (by decide)⟩
theorem vq.start(dJ:Ar w0 w ns (.slice ao ns.length c) gl gr)(hw:jV p w nv bv Ns)(bF:zh w0.heap.size w0 w)(hp:w0.heap.size<=p)
  (hW:w.alloc (zf #[.slice ao ns.length c,zc (zb ⟨gl,0,za⟩) ns.length cl,zc (zb ⟨gr,0,za⟩) ns.length cr,.string ⟨#[]⟩] 118)=W):vq w0 p w W ns ao c gl cl gr cr nv bv Ns:=by
 subst hW;have hb:zh w.heap.size w (w.alloc (zf #[.slice ao ns.length c,zc (zb ⟨gl,0,za⟩) ns.length cl,zc (zb ⟨gr,0,za⟩) ns.length cr,.string ⟨#[]⟩] 118)):=ax;have k:=fy.k8 (p:=p) (Nat.le_of_lt (ay hw.box)) hb;exact⟨dJ.keep k,hw.below hb,k,k.base bF hp,aJ _ _⟩
def Du(w0:ze)(ns:List aC)(n:Nat)(mn mx:Int):Prop:=∀(p:Nat) (w:ze) (ao:Option Addr) (c gl cl gr cr:Nat) (nv bv:zg) (Ns:List bB),Ar w0 w ns (.slice ao ns.length c) gl gr->jV p w nv bv Ns->zh w0.heap.size w0 w->w0.heap.size<=p->Ns.length+o6 (dO (bV ns n)) mn mx<=8589934592->
 zm prog 89 #[zl (zb ⟨p,0,za⟩),zi #[.slice ao ns.length c,zc (zb ⟨gl,0,za⟩) ns.length cl,zc (zb ⟨gr,0,za⟩) ns.length cr,.string ⟨#[]⟩],zd .i64 n,zd .i64 mn,zd .i64 mx] w λe W=>WtR w0 p w bv Ns (rE (iG (bV ns n)) mn mx) (o6 (dO (bV ns n)) mn mx) e W
theorem zmB(w0:ze)(ns:List aC)(n:Nat)(hW:tw w0 ns n):Du w0 ns n 0 (-1):=by
 intro p w ao c gl cl gr cr nv bv Ns dJ fG bF hp hN;have iJ:o6 (dO (bV ns n)) 0 (-1)=dO (bV ns n)+1:=by simp[o6]
 rw[iJ]at hN ⊢;rw[zs7];obtain⟨W0,aw⟩:∃W0,w.alloc (zf #[.slice ao ns.length c,zc (zb ⟨gl,0,za⟩) ns.length cl,zc (zb ⟨gr,0,za⟩) ns.length cr,.string ⟨#[]⟩] 118)=W0:=⟨_,rfl⟩;have bi:=vq.start (cl:=cl) (cr:=cr) dJ fG bF hp aw;have cw:=hW p W0 ao c gl cl gr cr nv bv Ns bi.br bi.wt bi.bl hp (by omega);obtain⟨p0,p1,p2,p3⟩:=eG bi.x0;have eJ:=ag bi;have bD:=ag aw;have HN:=ag hN;clear dJ fG bF hN iJ bi aw
 go_enter func89,ntmps89
 go_upto_region 1 with fail
 rw[bD.out];clear bD
 go_wp2_with fail
 refine cw.mono ?_;rintro e W1 ⟨mf,Ms,T,rfl,ng,kG,nO⟩;have gL:=ag (eJ.out.step hp nO ng);have tf:=ag kG;have oH:(Ns++Ms).length<=8589934592:=by have:=kG.len;have:=HN.out;simp;omega
 have ca:=Db p 42 (Ns.length+Ms.length-1) 0 za 0 0 W1 mf bv (Ns++Ms) ng oH;generalize dg:Ns.length+Ms.length-1=i1 at *;have l5:=ag dg;clear cw ng kG nO oH dg p0 p1 p2 p3
 go_wp2_with fail
 refine ca.mono ?_;rintro e W2 ⟨rfl,⟨jq,nh⟩,oK⟩;clear ca;go_wp2;refine aW (v:=zd .i64 (((Ns++Ms).length:Nat):Int)) (by simp[results,results89,go_sem]) rfl ⟨jq,Ms++[⟨42,i1,0,zc za 0 0⟩],.st T,?_,?_,?_,(gL.out.kp.trans oK)⟩
 ·simp
 ·rw[<-gJ];exact nh
 ·have:=tf.out.star;rw[l5.out]at this;exact this
theorem zmC(w0:ze)(ns:List aC)(n:Nat):Du w0 ns n 0 0:=by
 intro p w ao c gl cl gr cr nv bv Ns dJ fG bF hp hN;have iJ:o6 (dO (bV ns n)) 0 0=1:=by simp[o6]
 rw[iJ]at hN ⊢;rw[zs8];obtain⟨W0,aw⟩:∃W0,w.alloc (zf #[.slice ao ns.length c,zc (zb ⟨gl,0,za⟩) ns.length cl,zc (zb ⟨gr,0,za⟩) ns.length cr,.string ⟨#[]⟩] 118)=W0:=⟨_,rfl⟩;have bi:=vq.start (cl:=cl) (cr:=cr) dJ fG bF hp aw;have ca:=Db p 101 0 0 za 0 0 W0 nv bv Ns bi.wt (by omega);have eJ:=ag bi;have bD:=ag aw;clear dJ fG bF hN iJ bi aw
 go_enter func89,ntmps89
 go_upto_region 1 with fail
 rw[bD.out];clear bD
 go_wp2_with fail
 refine ca.mono ?_;rintro e W2 ⟨rfl,⟨jq,nh⟩,oK⟩;clear ca;go_wp2;refine aW (v:=zd .i64 ((Ns.length:Nat):Int)) (by simp[results,results89,go_sem]) rfl ⟨jq,[⟨101,0,0,zc za 0 0⟩],.e,?_,nh,jU.E6,(eJ.out.kp.trans oK)⟩;simp
theorem zhn(w0:ze)(ns:List aC)(n:Nat)(mn mx mr:Int)(hW:tw w0 ns n)(h0:0<mn)(hx:(mx=-1/\mr=-1)\/(0<mx/\mn<=mx/\mr=mx-1))(nK:mn<=1000)(hmx:mx<=1000)(hC:Du w0 ns n (mn-1) mr):Du w0 ns n mn mx:=by
 intro p w ao c gl cl gr cr nv bv Ns dJ fG bF hp hN;have iJ:o6 (dO (bV ns n)) mn mx=dO (bV ns n)+o6 (dO (bV ns n)) (mn-1) mr+1:=by
  obtain⟨k,rfl⟩:∃k:Nat,mn=k+1:=⟨(mn-1).toNat,by omega⟩;unfold o6;rcases hx with ⟨rfl,rfl⟩|⟨h1,h2,rfl⟩
  ·rw[af rfl,af rfl,show ((k:Int)+1).toNat=k+1 by omega,show ((k:Int)+1-1).toNat=k by omega,Bp];omega
  ·rw[ab (by omega),ab (by omega),show ((k:Int)+1).toNat=k+1 by omega,show ((k:Int)+1-1).toNat=k by omega,show mx-1-(k+1-1)=mx-(k+1) by omega,Bp];omega
 have Cy:rE (iG (bV ns n)) mn mx=(iG (bV ns n)).seq (rE (iG (bV ns n)) (mn-1) mr):=by
  rcases zs6 (iG (bV ns n)) mn mx h0 with h|h
  ·rw[h];rcases hx with ⟨rfl,rfl⟩|⟨h1,h2,rfl⟩
   ·rfl
   ·rw[af (by omega)]
  ·omega
 rw[iJ]at hN ⊢;rw[Cy];obtain⟨W0,aw⟩:∃W0,w.alloc (zf #[.slice ao ns.length c,zc (zb ⟨gl,0,za⟩) ns.length cl,zc (zb ⟨gr,0,za⟩) ns.length cr,.string ⟨#[]⟩] 118)=W0:=⟨_,rfl⟩;have bi:=vq.start (cl:=cl) (cr:=cr) dJ fG bF hp aw;have cw:=hW p W0 ao c gl cl gr cr nv bv Ns bi.br bi.wt bi.bl hp (by omega);obtain⟨p0,p1,p2,p3⟩:=eG bi.x0;have eJ:=ag bi;have bD:=ag aw;have HN:=ag hN;have HX:=ag hx;have hm0:¬mn=0:=by omega
 have hwm:IntKind.i64.wrap (mn-1)=mn-1:=by rw[IntKind.wrap_i64];omega
 have lM:¬mx=0:=by omega
 clear dJ fG bF hN iJ bi aw Cy hx;have fin:∀(W1:ze) (mf:zg) (Ms:List bB) (T:GT),jV p W1 mf bv (Ns++Ms)->jU w0 Ns Ms (iG (bV ns n)) (dO (bV ns n)) T->fy p W0 W1->vq w0 p w W1 ns ao c gl cl gr cr mf bv (Ns++Ms)/\zm prog 89 #[zl (zb ⟨p,0,za⟩),zi #[.slice ao ns.length c,zc (zb ⟨gl,0,za⟩) ns.length cl,zc (zb ⟨gr,0,za⟩) ns.length cr,.string ⟨#[]⟩],zd .i64 n,zd .i64 (mn-1),zd .i64 mr] W1 λe W2=>∃jq Ls U,e=.returned (zd .i64 (((Ns++Ms).length+Ls.length-1:Nat):Int))/\jV p W2 jq bv (Ns++(Ms++Ls))/\fy p w W2/\(Ns++(Ms++Ls)).length<=8589934592/\jU w0 Ns (Ms++Ls++[⟨113,Ns.length+Ms.length-1,(Ns++Ms).length+Ls.length-1,zc za 0 0⟩]) ((iG (bV ns n)).seq (rE (iG (bV ns n)) (mn-1) mr)) (dO (bV ns n)+o6 (dO (bV ns n)) (mn-1) mr+1) (.q T U):=by
  intro W1 mf Ms T ng kG nO;have s1:=eJ.out.step hp nO ng;refine⟨s1,(hC p W1 ao c gl cl gr cr mf bv (Ns++Ms) s1.br s1.wt s1.bl hp (by have:=kG.len;have:=HN.out;rw[aQ];omega)).mono ?_⟩;rintro e W2 ⟨jq,Ls,U,rfl,nh,po,oK⟩;refine⟨jq,Ls,U,rfl,by rw[<-gJ];exact nh,s1.kp.trans oK,?_,kG.seq po⟩;have:=kG.len;have:=po.len;have:=HN.out;rw[aQ,aQ];omega
 have HF:=ag fin;clear fin
 go_enter func89,ntmps89
 go_upto_region 1 with fail
 rw[bD.out];clear bD;rcases HX.out with ⟨rfl,rfl⟩|⟨h1,h2,rfl⟩
 all_goals
  (try (have YN:IntKind.i64.wrap (mx-1)=mx-1:=by rw[IntKind.wrap_i64];omega))
  go_wp2_with fail
  refine cw.mono ?_;rintro e W1 ⟨mf,Ms,T,rfl,ng,kG,nO⟩;obtain⟨s1,cc⟩:=HF.out W1 mf Ms T ng kG nO;obtain⟨p0,p1,p2,p3⟩:=eG s1.x0;generalize dg:Ns.length+Ms.length-1=i1 at *;clear ng kG nO s1 cw dg
  go_wp2_with fail
  refine cc.mono ?_;rintro e W2 ⟨jq,Ls,U,rfl,nh,oK,eE,po⟩;have BG:=ag po;have wZ:=ag oK;generalize pg:(Ns++Ms).length+Ls.length-1=i2 at *;have ca:=Db p 113 i1 i2 za 0 0 W2 jq bv (Ns++(Ms++Ls)) nh eE;clear cc po oK nh eE pg
  go_wp2_with fail
  refine ca.mono ?_;rintro e W3 ⟨rfl,⟨zK,E7⟩,ET⟩;clear ca;go_wp2;refine aW (v:=zd .i64 (((Ns++(Ms++Ls)).length:Nat):Int)) (by simp[results,results89,go_sem]) rfl ⟨zK,Ms++Ls++[⟨113,i1,i2,zc za 0 0⟩],.q T U,?_,?_,BG.out,wZ.out.trans ET⟩
  ·rw[yc,aQ];rfl
  ·rw[<-gJ];exact E7
theorem zmA(w0:ze)(ns:List aC)(n:Nat)(mx:Int)(hW:tw w0 ns n)(h0:0<mx)(hmx:mx<=1000)(hC:Du w0 ns n 0 (mx-1)):Du w0 ns n 0 mx:=by
 intro p w ao c gl cl gr cr nv bv Ns dJ fG bF hp hN;have iJ:o6 (dO (bV ns n)) 0 mx=(dO (bV ns n)+o6 (dO (bV ns n)) 0 (mx-1)+1)+1+1:=by
  obtain⟨k,rfl⟩:∃k:Nat,mx=k+1:=⟨(mx-1).toNat,by omega⟩;unfold o6;rw[ab (by omega),ab (by omega),show ((k:Int)+1-0).toNat=k+1 by omega,show ((k:Int)+1-1-0).toNat=k by omega,Bp];omega
 have Cy:=zs5 (iG (bV ns n)) mx h0;rw[iJ]at hN ⊢;rw[Cy];obtain⟨W0,aw⟩:∃W0,w.alloc (zf #[.slice ao ns.length c,zc (zb ⟨gl,0,za⟩) ns.length cl,zc (zb ⟨gr,0,za⟩) ns.length cr,.string ⟨#[]⟩] 118)=W0:=⟨_,rfl⟩;have bi:=vq.start (cl:=cl) (cr:=cr) dJ fG bF hp aw;have cw:=hW p W0 ao c gl cl gr cr nv bv Ns bi.br bi.wt bi.bl hp (by omega);obtain⟨p0,p1,p2,p3⟩:=eG bi.x0;have eJ:=ag bi;have bD:=ag aw;have HN:=ag hN;have lM:¬mx=0:=by omega
 have kC:¬mx=-1:=by omega
 have YN:IntKind.i64.wrap (mx-1)=mx-1:=by rw[IntKind.wrap_i64];omega
 clear dJ fG bF hN iJ bi aw Cy;have fin:∀(W1:ze) (mf:zg) (Ms:List bB) (T:GT),jV p W1 mf bv (Ns++Ms)->jU w0 Ns Ms (iG (bV ns n)) (dO (bV ns n)) T->fy p W0 W1->vq w0 p w W1 ns ao c gl cl gr cr mf bv (Ns++Ms)/\zm prog 89 #[zl (zb ⟨p,0,za⟩),zi #[.slice ao ns.length c,zc (zb ⟨gl,0,za⟩) ns.length cl,zc (zb ⟨gr,0,za⟩) ns.length cr,.string ⟨#[]⟩],zd .i64 n,zd .i64 0,zd .i64 (mx-1)] W1 λe W2=>∃jq Ls U,e=.returned (zd .i64 (((Ns++Ms).length+Ls.length-1:Nat):Int))/\jV p W2 jq bv (Ns++(Ms++Ls))/\fy p w W2/\(Ns++(Ms++Ls)).length+2<=8589934592/\jU w0 Ns (Ms++Ls++[⟨113,Ns.length+Ms.length-1,(Ns++Ms).length+Ls.length-1,zc za 0 0⟩]) ((iG (bV ns n)).seq (rE (iG (bV ns n)) 0 (mx-1))) (dO (bV ns n)+o6 (dO (bV ns n)) 0 (mx-1)+1) (.q T U):=by
  intro W1 mf Ms T ng kG nO;have s1:=eJ.out.step hp nO ng;refine⟨s1,(hC p W1 ao c gl cl gr cr mf bv (Ns++Ms) s1.br s1.wt s1.bl hp (by have:=kG.len;have:=HN.out;rw[aQ];omega)).mono ?_⟩;rintro e W2 ⟨jq,Ls,U,rfl,nh,po,oK⟩;refine⟨jq,Ls,U,rfl,by rw[<-gJ];exact nh,s1.kp.trans oK,?_,kG.seq po⟩;have:=kG.len;have:=po.len;have:=HN.out;rw[aQ,aQ];omega
 have HF:=ag fin;clear fin
 go_enter func89,ntmps89
 go_upto_region 1 with fail
 rw[bD.out];clear bD
 go_wp2_with fail
 refine cw.mono ?_;rintro e W1 ⟨mf,Ms,T,rfl,ng,kG,nO⟩;obtain⟨s1,cc⟩:=HF.out W1 mf Ms T ng kG nO;obtain⟨p0,p1,p2,p3⟩:=eG s1.x0;generalize dg:Ns.length+Ms.length-1=i1 at *;clear ng kG nO s1 cw dg
 go_wp2_with fail
 refine cc.mono ?_;rintro e W2 ⟨jq,Ls,U,rfl,nh,oK,eE,po⟩;have wZ:=ag oK;generalize pg:(Ns++Ms).length+Ls.length-1=i2 at *;obtain⟨Q,hQ⟩:∃Q,Ms++Ls++[(⟨113,i1,i2,zc za 0 0⟩:bB)]=Q:=⟨_,rfl⟩;have Ej:Q.length=(Ms++Ls).length+1:=by rw[<-hQ,yc]
 have Eh:(Ns++(Ms++Ls)).length=Ns.length+(Ms++Ls).length:=aQ;have ca:=Db p 113 i1 i2 za 0 0 W2 jq bv (Ns++(Ms++Ls)) nh (by omega);rw[show Ns++(Ms++Ls)++[(⟨113,i1,i2,zc za 0 0⟩:bB)]=Ns++Q by rw[<-hQ,gJ]]at ca;rw[hQ]at po;have BG:=ag po;have l7:=ag eE;have nI:(Ns++(Ms++Ls)).length=Ns.length+Q.length-1:=by omega
 rw[nI]at ca;have HQL:=ag Ej;have L9:=ag Eh;have LY:=ag nI;generalize xN:Ns.length+Q.length-1=i3 at *;have jS:=ag xN;clear cc po oK nh eE pg hQ Ej Eh nI xN
 go_wp2_with fail
 refine ca.mono ?_;rintro e W3 ⟨rfl,⟨zK,E7⟩,ET⟩;have ce:=Db p 101 0 0 za 0 0 W3 zK bv (Ns++Q) E7 (by rw[aQ];have:=l7.out;have:=HQL.out;have:=L9.out;omega);have FQ:=ag (wZ.out.trans ET);have Vd:=BG.out.eH (jU.E6 (w0:=w0) (Ns:=Ns++Q));rw[jS.out,show (Ns++Q).length+[(⟨101,0,0,zc za 0 0⟩:bB)].length-1=(Ns++Q).length from rfl]at Vd;have iu:(Ns++Q++[(⟨101,0,0,zc za 0 0⟩:bB)]).length<=8589934592:=by rw[yc,aQ];have:=l7.out;have:=HQL.out;have:=L9.out;omega
 have h4:((Ns++Q++[(⟨101,0,0,zc za 0 0⟩:bB)]).length)=Ns.length+(Q++[(⟨101,0,0,zc za 0 0⟩:bB)]++[(⟨111,i3,(Ns++Q).length,zc za 0 0⟩:bB)]).length-1:=by rw[yc,yc,yc,aQ];rfl
 have H4:=ag h4;have FN:=ag iu;have HT6:=ag Vd;generalize hi4:(Ns++Q).length=i4 at *;clear ca E7 ET Vd h4 iu hi4
 go_wp2_with fail
 refine ce.mono ?_;rintro e W4 ⟨rfl,⟨Kt,SS⟩,N6⟩;have co:=Db p 111 i3 i4 za 0 0 W4 Kt bv (Ns++Q++[⟨101,0,0,zc za 0 0⟩]) SS FN.out;rw[H4.out]at co;have HK4:=ag (FQ.out.trans N6);generalize JZ:Ns.length+(Q++[(⟨101,0,0,zc za 0 0⟩:bB)]++[(⟨111,i3,i4,zc za 0 0⟩:bB)]).length-1=i5 at *;have FP:=ag JZ;clear ce SS N6 JZ
 go_wp2_with fail
 refine co.mono ?_;rintro e W5 ⟨rfl,⟨nv5,wt5⟩,kp5⟩;clear co;go_wp2;refine aW (v:=zd .i64 (i5:Int)) (by simp[results,results89,go_sem]) rfl ⟨nv5,Q++[⟨101,0,0,zc za 0 0⟩]++[⟨111,i3,i4,zc za 0 0⟩],_,?_,?_,HT6.out,HK4.out.trans kp5⟩
 ·rw[FP.out]
 ·rw[<-gJ,<-gJ];exact wt5
theorem ziS(w0:ze)(ns:List aC)(n:Nat)(hW:tw w0 ns n):∀(k:Nat) (mn mx:Int),0<=mn->mn<=1000->mx<=1000->(mx=-1/\mn=k\/mn<=mx/\mx=k)->Du w0 ns n mn mx:=by
 intro k
 induction k with
 |zero=>
  intro mn mx h0 h1 h2 h3;rcases h3 with ⟨rfl,h⟩|⟨h,h'⟩
  ·obtain rfl:mn=0:=by omega
   exact zmB w0 ns n hW
  ·obtain rfl:mn=0:=by omega
   obtain rfl:mx=0:=by omega
   exact zmC w0 ns n
 |succ k ih=>
  intro mn mx h0 h1 h2 h3;rcases h3 with ⟨rfl,h⟩|⟨h,h'⟩
  ·exact zhn w0 ns n mn (-1) (-1) hW (by omega) (.inl ⟨rfl,rfl⟩) h1 h2 (ih (mn-1) (-1) (by omega) (by omega) (by omega) (.inl ⟨rfl,by omega⟩))
  ·by_cases hm:mn=0
   ·subst hm;exact zmA w0 ns n mx hW (by omega) h2 (ih 0 (mx-1) (by omega) (by omega) (by omega) (.inr ⟨by omega,by omega⟩))
   ·exact zhn w0 ns n mn mx (mx-1) hW (by omega) (.inr ⟨by omega,h,rfl⟩) h1 h2 (ih (mn-1) (mx-1) (by omega) (by omega) (by omega) (.inr ⟨by omega,by omega⟩))
end
section
variable {w W w0:ze}{g nv bv k s mn mx:zg}{c p gl cl gr cr:Nat}{Ns:List bB}{ns:List aC}{ao:Option Addr}
theorem CP{g:Nat}{a b c d e:zg}{t:zj}(h:w.heap[g]?=zb (zf #[a,b,c,d,e] t (0,0))):w.cell? ⟨g,0,za⟩=zb a/\w.cell? ⟨g,1,za⟩=zb b/\w.cell? ⟨g,2,za⟩=zb c/\w.cell? ⟨g,3,za⟩=zb d/\w.cell? ⟨g,4,za⟩=zb e:=by
 have:∀o,w.cell? ⟨g,o,za⟩=#[a,b,c,d,e][o]?:=λ_=>iY _ _ _ _ _ _ h
 exact⟨this 0,this 1,this 2,this 3,this 4⟩
theorem fy.drewN(w:ze)(n:Nat):fy p w (w.drewN n):=⟨rfl,rfl,rfl,aq _,λ_ _=>rfl,λ_ _ _ h _ _=>h⟩
theorem jV.drewN(h:jV p W nv bv Ns)(n:Nat):jV p (W.drewN n) nv bv Ns:=h.below ⟨rfl,rfl,rfl,aq _,λ_ _=>rfl⟩
structure xq(w0:ze)(p:Nat)(w W:ze)(ns:List aC)(ao:Option Addr)(c gl cl gr cr:Nat)(nv bv:zg)(Ns:List bB)(k s mn mx g:zg):Prop where
 cs:vq w0 p w W ns ao c gl cl gr cr nv bv Ns
 x1:W.heap[w.heap.size+1]?=zb (zf #[k,s,mn,mx,g] 135 (0,0))
theorem xq.step{W':ze}{sF:zg}{Ms:List bB}(h:xq w0 p w W ns ao c gl cl gr cr nv bv Ns k s mn mx g)(hp:w0.heap.size<=p)(kp:fy p W W')(hw:jV p W' sF bv Ms):xq w0 p w W' ns ao c gl cl gr cr sF bv Ms k s mn mx g:=
 ⟨h.cs.step hp kp hw,kp.E3 _ _ _ h.x1 (by decide) (by decide)⟩
theorem xq.start(dJ:Ar w0 w ns (.slice ao ns.length c) gl gr)(hw:jV p w nv bv Ns)(bF:zh w0.heap.size w0 w)(hp:w0.heap.size<=p)
  (hW:(w.alloc (zf #[.slice ao ns.length c,zc (zb ⟨gl,0,za⟩) ns.length cl,zc (zb ⟨gr,0,za⟩) ns.length cr,.string ⟨#[]⟩] 118)).alloc (zf #[k,s,mn,mx,g] 135)=W):xq w0 p w W ns ao c gl cl gr cr nv bv Ns k s mn mx g:=by
 subst hW;have h0:=vq.start (cl:=cl) (cr:=cr) dJ hw bF hp rfl;have hb:zh (w.alloc (zf #[.slice ao ns.length c,zc (zb ⟨gl,0,za⟩) ns.length cl,zc (zb ⟨gr,0,za⟩) ns.length cr,.string ⟨#[]⟩] 118)).heap.size _ ((w.alloc (zf #[.slice ao ns.length c,zc (zb ⟨gl,0,za⟩) ns.length cl,zc (zb ⟨gr,0,za⟩) ns.length cr,.string ⟨#[]⟩] 118)).alloc (zf #[k,s,mn,mx,g] 135)):=ax;exact⟨h0.step hp (fy.k8 (Nat.le_of_lt (ay h0.wt.box)) hb) (h0.wt.below hb),Ui _ _ _⟩
theorem xq.kids(h:xq w0 p w W ns ao c gl cl gr cr nv bv Ns k s mn mx g){n:Nat}(hn:n<ns.length):W.cell? ⟨gl,n,za⟩=zb (zd .i64 (pw ns n))/\W.cell? ⟨gr,n,za⟩=zb (zd .i64 (ve ns n)):=by
 obtain⟨-,⟨cs,h2,h3⟩,D6,h4,h5⟩:=h.cs.br;constructor
 ·rw[show W.cell? ⟨gl,n,za⟩=cs[n]? from iY _ _ _ _ _ _ h2];exact h3 n hn
 ·rw[show W.cell? ⟨gr,n,za⟩=D6[n]? from iY _ _ _ _ _ _ h4];exact h5 n hn
theorem zvc(w0:ze)(ns:List aC)(n:Nat)(hn:n<ns.length)(hk:dT ns n=1)(hT:bV ns n=.set (tI (ns.getD n .zero).set)):tw w0 ns n:=by
 intro p w ao c gl cl gr cr nv bv Ns dJ fG bF hp hN;rw[hT]at hN ⊢;obtain⟨Qt,tB,hv,uM,aV⟩:=dJ.nodes;cases hv;obtain⟨b,o,sv,nd,rfl,Hn,zk,c0,c1,c2,c3,c4,jF⟩:=aV.elem bF hn;have bO:nd.kind=1:=by rw[<-hk];unfold dT;rw[Hn.out]
 rw[bO]at c0;obtain⟨eA,eB,Cz,hsm,wj⟩:=jF;subst Cz;have fP:b<w.heap.size:=dR zk bF.size;obtain⟨W0,aw⟩:∃W0,(w.alloc (zf #[zc (zb ⟨b,o,za⟩) ns.length c,zc (zb ⟨gl,0,za⟩) ns.length cl,zc (zb ⟨gr,0,za⟩) ns.length cr,.string ⟨#[]⟩] 118)).alloc (zf #[zd .i64 1,.slice eA nd.set.length eB,zd .i64 nd.min,zd .i64 nd.max,zd .i64 nd.group] 135)=W0:=⟨_,rfl⟩;have bi:=xq.start (cl:=cl) (cr:=cr) dJ fG bF hp aw;obtain⟨p0,p1,p2,p3⟩:=eG bi.cs.x0;obtain⟨q0,q1,q2,q3,q4⟩:=CP bi.x1;obtain⟨e0,e1⟩:=bi.kids hn;have eC:(0:Int)<=(n:Int):=by omega
 have dg:(n:Int)<(ns.length:Int):=by omega
 have fF:prog.follows .mixedOrders=true:=by kernel_rfl
 rw[Hn.out]at hN ⊢;have hrs:nr 0 w0 (.slice eA nd.set.length eB) nd.set:=by
  obtain⟨b',o',Za,nd',e1',Vv,-,-,d1,-,-,-,zCa⟩:=aV.elem (Below.refl _ _) hn;cases e1';have d2:=(bF.cell (p:=⟨b,o+n*5+1,za⟩) zk).trans d1;rw[c1]at d2;cases d2;have:nd=nd':=by rw[<-Hn.out,<-Vv.out]
  subst this;exact zCa
 have Eg:Ns.length<=8589934592:=by omega
 have ca:=Db p 115 0 0 eA nd.set.length eB W0 nv bv Ns bi.cs.wt Eg;have HRS:=ag hrs;clear hrs;have eJ:=ag bi;have bD:=ag aw;have HN:=ag hN;clear dJ fG bF hN bi aw aV wj hk bO hT
 go_enter func67,ntmps67
 go_upto_region 2 with fail
 rw[bD.out];clear bD c0 c1 c2 c3 c4
 go_wp2_with fail
 refine ca.mono ?_;rintro e W2 ⟨rfl,⟨jq,nh⟩,oK⟩;clear ca;go_wp2;refine aW (v:=zd .i64 ((Ns.length:Nat):Int)) (by simp[results,results67,go_sem]) rfl ⟨jq,[⟨115,0,0,.slice eA nd.set.length eB⟩],_,?_,nh,jU.leaf HRS.out,(eJ.out.cs.kp.trans oK)⟩;simp
theorem zvb(w0:ze)(ns:List aC)(n x y:Nat)(hn:n<ns.length)(hk:dT ns n=2)(hT:bV ns n=.seq (bV ns x) (bV ns y))(hL:pw ns n=x)(hR:ve ns n=y)(hX:tw w0 ns x)(hY:tw w0 ns y):tw w0 ns n:=by
 intro p w ao c gl cl gr cr nv bv Ns dJ fG bF hp hN;rw[hT]at hN ⊢;obtain⟨Qt,tB,hv,uM,aV⟩:=dJ.nodes;cases hv;obtain⟨b,o,sv,nd,rfl,Hn,zk,c0,c1,c2,c3,c4,jF⟩:=aV.elem bF hn;have bO:nd.kind=2:=by rw[<-hk];unfold dT;rw[Hn.out]
 rw[bO]at c0;obtain⟨eA,eB,Cz,hsm,wj⟩:=jF;subst Cz;have fP:b<w.heap.size:=dR zk bF.size;obtain⟨W0,aw⟩:∃W0,(w.alloc (zf #[zc (zb ⟨b,o,za⟩) ns.length c,zc (zb ⟨gl,0,za⟩) ns.length cl,zc (zb ⟨gr,0,za⟩) ns.length cr,.string ⟨#[]⟩] 118)).alloc (zf #[zd .i64 2,.slice eA nd.set.length eB,zd .i64 nd.min,zd .i64 nd.max,zd .i64 nd.group] 135)=W0:=⟨_,rfl⟩;have bi:=xq.start (cl:=cl) (cr:=cr) dJ fG bF hp aw;obtain⟨p0,p1,p2,p3⟩:=eG bi.cs.x0;obtain⟨q0,q1,q2,q3,q4⟩:=CP bi.x1;obtain⟨e0,e1⟩:=bi.kids hn;have eC:(0:Int)<=(n:Int):=by omega
 have dg:(n:Int)<(ns.length:Int):=by omega
 have fF:prog.follows .mixedOrders=true:=by kernel_rfl
 rw[hL]at e0;rw[hR]at e1;have nH:dO (Pt.seq (bV ns x) (bV ns y))=dO (bV ns x)+dO (bV ns y)+1:=rfl;rw[nH]at hN ⊢;have mV:iG (Pt.seq (bV ns x) (bV ns y))=(iG (bV ns x)).seq (iG (bV ns y)):=rfl;rw[mV];have HR:=ag hR;clear nH mV hL hR;have eJ:=ag bi;have bD:=ag aw;have HN:=ag hN;clear dJ fG bF hN bi aw aV wj hk bO hT
 go_enter func67,ntmps67
 go_upto_region 2 with fail
 rw[bD.out];clear bD c0 c1 c2 c3 c4
 go_upto_region 7 with fail
 refine Ie 7 (λw'=>∃n,w'=W0.drewN n) fF ⟨1,rfl⟩ (by decide) (by kernel_rfl) ?_;intro os bN;simp only[mz,vk]at bN;subst bN
 repeat (go_big_quiet_step (fail))
 refine wpQuiet_nil ?_;rintro w' ⟨nq,rfl⟩ r hr;simp only[Dp,Ao]at hr;subst hr
 go_wp2_with fail
 refine(hX p _ (zb ⟨b,o,za⟩) c gl cl gr cr nv bv Ns (eJ.out.cs.br.keep (fy.drewN (p:=p) _ _)) (eJ.out.cs.wt.drewN _) ((fy.drewN (p:=p) _ _).base eJ.out.cs.bl hp) hp (by have:=HN.out;omega)).mono ?_;rintro e W1 ⟨mf,Ms,T,rfl,ng,kG,nO⟩;have vQ:=eJ.out.step hp ((fy.drewN _ nq).trans nO) ng;obtain⟨p0,p1,p2,p3⟩:=eG vQ.cs.x0;obtain⟨q0,q1,q2,q3,q4⟩:=CP vQ.x1;have e0:=(vQ.cs.br.right);obtain⟨cs,f1,f2⟩:=vQ.cs.br.right;have e1:W1.cell? ⟨gr,n,za⟩=zb (zd .i64 y):=by rw[show W1.cell? ⟨gr,n,za⟩=cs[n]? from iY _ _ _ _ _ _ f1,f2 n hn,HR.out]
 have gL:=ag vQ;have tf:=ag kG;generalize dg:Ns.length+Ms.length-1=i1 at *;have l5:=ag dg;clear ng kG nO vQ dg f1 f2 e0
 go_upto_region 8 with fail
 refine Ie 7 (λw'=>∃n,w'=W1.drewN n) fF ⟨1,rfl⟩ (by decide) (by kernel_rfl) ?_;intro os bN;simp only[mz,vk]at bN;subst bN
 repeat (go_big_quiet_step (fail))
 refine wpQuiet_nil ?_;rintro w' ⟨nq,rfl⟩ r hr;simp only[Dp,Ao]at hr;subst hr
 go_wp2_with fail
 refine(hY p _ (zb ⟨b,o,za⟩) c gl cl gr cr mf bv (Ns++Ms) (gL.out.cs.br.keep (fy.drewN (p:=p) _ _)) (gL.out.cs.wt.drewN _) ((fy.drewN (p:=p) _ _).base gL.out.cs.bl hp) hp (by have:=tf.out.len;have:=HN.out;rw[aQ];omega)).mono ?_;rintro e W2 ⟨jq,Ls,U,rfl,nh,po,oK⟩;have Gu:=gL.out.step hp ((fy.drewN _ nq).trans oK) nh;obtain⟨q0,q1,q2,q3,q4⟩:=CP Gu.x1;have Ic:=tf.out.seq po;rw[l5.out]at Ic;have eE:(Ns++Ms++Ls).length<=8589934592:=by have:=tf.out.len;have:=po.len;have:=HN.out;rw[aQ,aQ];omega
 have hlen:(Ns++Ms++Ls).length=Ns.length+(Ms++Ls++[(⟨113,i1,(Ns++Ms).length+Ls.length-1,zc za 0 0⟩:bB)]).length-1:=by rw[yc,gJ,aQ];rfl
 generalize pg:(Ns++Ms).length+Ls.length-1=i2 at *;have ca:=Db p 113 i1 i2 za 0 0 W2 jq bv (Ns++Ms++Ls) nh eE;rw[hlen]at ca;generalize xN:Ns.length+(Ms++Ls++[(⟨113,i1,i2,zc za 0 0⟩:bB)]).length-1=i3 at *;have jS:=ag xN;have gY:=ag Gu;have Aw:=ag Ic;clear nh po oK Gu pg xN Ic eE hlen
 go_wp2_with fail
 refine ca.mono ?_;rintro e W3 ⟨rfl,⟨zK,E7⟩,ET⟩;clear ca;go_wp2;refine aW (v:=zd .i64 (i3:Int)) (by simp[results,results67,go_sem]) rfl ⟨zK,Ms++Ls++[⟨113,i1,i2,zc za 0 0⟩],_,?_,?_,Aw.out,(gY.out.cs.kp.trans ET)⟩
 ·rw[jS.out]
 ·rw[<-gJ,<-gJ];exact E7
theorem zu8(w0:ze)(ns:List aC)(n x y:Nat)(hn:n<ns.length)(hk:dT ns n=3)(hT:bV ns n=.eH (bV ns x) (bV ns y))(hL:pw ns n=x)(hR:ve ns n=y)(hX:tw w0 ns x)(hY:tw w0 ns y):tw w0 ns n:=by
 intro p w ao c gl cl gr cr nv bv Ns dJ fG bF hp hN;rw[hT]at hN ⊢;obtain⟨Qt,tB,hv,uM,aV⟩:=dJ.nodes;cases hv;obtain⟨b,o,sv,nd,rfl,Hn,zk,c0,c1,c2,c3,c4,jF⟩:=aV.elem bF hn;have bO:nd.kind=3:=by rw[<-hk];unfold dT;rw[Hn.out]
 rw[bO]at c0;obtain⟨eA,eB,Cz,hsm,wj⟩:=jF;subst Cz;have fP:b<w.heap.size:=dR zk bF.size;obtain⟨W0,aw⟩:∃W0,(w.alloc (zf #[zc (zb ⟨b,o,za⟩) ns.length c,zc (zb ⟨gl,0,za⟩) ns.length cl,zc (zb ⟨gr,0,za⟩) ns.length cr,.string ⟨#[]⟩] 118)).alloc (zf #[zd .i64 3,.slice eA nd.set.length eB,zd .i64 nd.min,zd .i64 nd.max,zd .i64 nd.group] 135)=W0:=⟨_,rfl⟩;have bi:=xq.start (cl:=cl) (cr:=cr) dJ fG bF hp aw;obtain⟨p0,p1,p2,p3⟩:=eG bi.cs.x0;obtain⟨q0,q1,q2,q3,q4⟩:=CP bi.x1;obtain⟨e0,e1⟩:=bi.kids hn;have eC:(0:Int)<=(n:Int):=by omega
 have dg:(n:Int)<(ns.length:Int):=by omega
 have fF:prog.follows .mixedOrders=true:=by kernel_rfl
 rw[hL]at e0;rw[hR]at e1;have nH:dO (Pt.eH (bV ns x) (bV ns y))=dO (bV ns x)+dO (bV ns y)+1:=rfl;rw[nH]at hN ⊢;have mV:iG (Pt.eH (bV ns x) (bV ns y))=(iG (bV ns x)).eH (iG (bV ns y)):=rfl;rw[mV];have HR:=ag hR;clear nH mV hL hR;have eJ:=ag bi;have bD:=ag aw;have HN:=ag hN;clear dJ fG bF hN bi aw aV wj hk bO hT
 go_enter func67,ntmps67
 go_upto_region 2 with fail
 rw[bD.out];clear bD c0 c1 c2 c3 c4
 go_upto_region 7 with fail
 refine Ie 7 (λw'=>∃n,w'=W0.drewN n) fF ⟨1,rfl⟩ (by decide) (by kernel_rfl) ?_;intro os bN;simp only[mz,vk]at bN;subst bN
 repeat (go_big_quiet_step (fail))
 refine wpQuiet_nil ?_;rintro w' ⟨nq,rfl⟩ r hr;simp only[Dp,Ao]at hr;subst hr
 go_wp2_with fail
 refine(hX p _ (zb ⟨b,o,za⟩) c gl cl gr cr nv bv Ns (eJ.out.cs.br.keep (fy.drewN (p:=p) _ _)) (eJ.out.cs.wt.drewN _) ((fy.drewN (p:=p) _ _).base eJ.out.cs.bl hp) hp (by have:=HN.out;omega)).mono ?_;rintro e W1 ⟨mf,Ms,T,rfl,ng,kG,nO⟩;have vQ:=eJ.out.step hp ((fy.drewN _ nq).trans nO) ng;obtain⟨p0,p1,p2,p3⟩:=eG vQ.cs.x0;obtain⟨q0,q1,q2,q3,q4⟩:=CP vQ.x1;have e0:=(vQ.cs.br.right);obtain⟨cs,f1,f2⟩:=vQ.cs.br.right;have e1:W1.cell? ⟨gr,n,za⟩=zb (zd .i64 y):=by rw[show W1.cell? ⟨gr,n,za⟩=cs[n]? from iY _ _ _ _ _ _ f1,f2 n hn,HR.out]
 have gL:=ag vQ;have tf:=ag kG;generalize dg:Ns.length+Ms.length-1=i1 at *;have l5:=ag dg;clear ng kG nO vQ dg f1 f2 e0
 go_upto_region 8 with fail
 refine Ie 7 (λw'=>∃n,w'=W1.drewN n) fF ⟨1,rfl⟩ (by decide) (by kernel_rfl) ?_;intro os bN;simp only[mz,vk]at bN;subst bN
 repeat (go_big_quiet_step (fail))
 refine wpQuiet_nil ?_;rintro w' ⟨nq,rfl⟩ r hr;simp only[Dp,Ao]at hr;subst hr
 go_wp2_with fail
 refine(hY p _ (zb ⟨b,o,za⟩) c gl cl gr cr mf bv (Ns++Ms) (gL.out.cs.br.keep (fy.drewN (p:=p) _ _)) (gL.out.cs.wt.drewN _) ((fy.drewN (p:=p) _ _).base gL.out.cs.bl hp) hp (by have:=tf.out.len;have:=HN.out;rw[aQ];omega)).mono ?_;rintro e W2 ⟨jq,Ls,U,rfl,nh,po,oK⟩;have Gu:=gL.out.step hp ((fy.drewN _ nq).trans oK) nh;obtain⟨q0,q1,q2,q3,q4⟩:=CP Gu.x1;have Ic:=tf.out.eH po;rw[l5.out]at Ic;have eE:(Ns++Ms++Ls).length<=8589934592:=by have:=tf.out.len;have:=po.len;have:=HN.out;rw[aQ,aQ];omega
 have hlen:(Ns++Ms++Ls).length=Ns.length+(Ms++Ls++[(⟨111,i1,(Ns++Ms).length+Ls.length-1,zc za 0 0⟩:bB)]).length-1:=by rw[yc,gJ,aQ];rfl
 generalize pg:(Ns++Ms).length+Ls.length-1=i2 at *;have ca:=Db p 111 i1 i2 za 0 0 W2 jq bv (Ns++Ms++Ls) nh eE;rw[hlen]at ca;generalize xN:Ns.length+(Ms++Ls++[(⟨111,i1,i2,zc za 0 0⟩:bB)]).length-1=i3 at *;have jS:=ag xN;have gY:=ag Gu;have Aw:=ag Ic;clear nh po oK Gu pg xN Ic eE hlen
 go_wp2_with fail
 refine ca.mono ?_;rintro e W3 ⟨rfl,⟨zK,E7⟩,ET⟩;clear ca;go_wp2;refine aW (v:=zd .i64 (i3:Int)) (by simp[results,results67,go_sem]) rfl ⟨zK,Ms++Ls++[⟨111,i1,i2,zc za 0 0⟩],_,?_,?_,Aw.out,(gY.out.cs.kp.trans ET)⟩
 ·rw[jS.out]
 ·rw[<-gJ,<-gJ];exact E7
theorem zu9(w0:ze)(ns:List aC)(n x:Nat)(hn:n<ns.length)(hk:dT ns n=5)(hT:bV ns n=.dX (bV ns x) (ns.getD n .zero).group)(hL:pw ns n=x)(hX:tw w0 ns x):tw w0 ns n:=by
 intro p w ao c gl cl gr cr nv bv Ns dJ fG bF hp hN;rw[hT]at hN ⊢;obtain⟨Qt,tB,hv,uM,aV⟩:=dJ.nodes;cases hv;obtain⟨b,o,sv,nd,rfl,Hn,zk,c0,c1,c2,c3,c4,jF⟩:=aV.elem bF hn;have bO:nd.kind=5:=by rw[<-hk];unfold dT;rw[Hn.out]
 rw[bO]at c0;obtain⟨eA,eB,Cz,hsm,wj⟩:=jF;subst Cz;have fP:b<w.heap.size:=dR zk bF.size;obtain⟨W0,aw⟩:∃W0,(w.alloc (zf #[zc (zb ⟨b,o,za⟩) ns.length c,zc (zb ⟨gl,0,za⟩) ns.length cl,zc (zb ⟨gr,0,za⟩) ns.length cr,.string ⟨#[]⟩] 118)).alloc (zf #[zd .i64 5,.slice eA nd.set.length eB,zd .i64 nd.min,zd .i64 nd.max,zd .i64 nd.group] 135)=W0:=⟨_,rfl⟩;have bi:=xq.start (cl:=cl) (cr:=cr) dJ fG bF hp aw;obtain⟨p0,p1,p2,p3⟩:=eG bi.cs.x0;obtain⟨q0,q1,q2,q3,q4⟩:=CP bi.x1;obtain⟨e0,e1⟩:=bi.kids hn;have eC:(0:Int)<=(n:Int):=by omega
 have dg:(n:Int)<(ns.length:Int):=by omega
 have fF:prog.follows .mixedOrders=true:=by kernel_rfl
 rw[hL]at e0;have nH:dO (Pt.dX (bV ns x) (ns.getD n .zero).group)=dO (bV ns x):=rfl;rw[nH]at hN ⊢;have mV:iG (Pt.dX (bV ns x) (ns.getD n .zero).group)=iG (bV ns x):=rfl;rw[mV];clear nH mV hL;have eJ:=ag bi;have bD:=ag aw;have HN:=ag hN;clear dJ fG bF hN bi aw aV wj hk bO hT
 go_enter func67,ntmps67
 go_upto_region 2 with fail
 rw[bD.out];clear bD c0 c1 c2 c3 c4
 go_upto_region 14 with fail
 refine Ie 7 (λw'=>∃n,w'=W0.drewN n) fF ⟨1,rfl⟩ (by decide) (by kernel_rfl) ?_;intro os bN;simp only[mz,vk]at bN;subst bN
 repeat (go_big_quiet_step (fail))
 refine wpQuiet_nil ?_;rintro w' ⟨nq,rfl⟩ r hr;simp only[Dp,Ao]at hr;subst hr
 go_wp2_with fail
 refine(hX p _ (zb ⟨b,o,za⟩) c gl cl gr cr nv bv Ns (eJ.out.cs.br.keep (fy.drewN (p:=p) _ _)) (eJ.out.cs.wt.drewN _) ((fy.drewN (p:=p) _ _).base eJ.out.cs.bl hp) hp HN.out).mono ?_;rintro e W1 ⟨mf,Ms,T,rfl,ng,kG,nO⟩;generalize dg:Ns.length+Ms.length-1=i1 at *;have l5:=ag dg;clear dg;go_wp2;exact aW (v:=zd .i64 (i1:Int)) (by simp[results,results67,go_sem]) rfl ⟨mf,Ms,T,by rw[l5.out],ng,kG,(eJ.out.cs.kp.trans (fy.drewN _ nq)).trans nO⟩
theorem zva(w0:ze)(ns:List aC)(n x:Nat)(hn:n<ns.length)(hk:dT ns n=4)(hT:bV ns n=.jI (bV ns x) (ns.getD n .zero).min (ns.getD n .zero).max)(hL:pw ns n=x)(hX:Du w0 ns x (ns.getD n .zero).min (ns.getD n .zero).max):tw w0 ns n:=by
 intro p w ao c gl cl gr cr nv bv Ns dJ fG bF hp hN;rw[hT]at hN ⊢;obtain⟨Qt,tB,hv,uM,aV⟩:=dJ.nodes;cases hv;obtain⟨b,o,sv,nd,rfl,Hn,zk,c0,c1,c2,c3,c4,jF⟩:=aV.elem bF hn;have bO:nd.kind=4:=by rw[<-hk];unfold dT;rw[Hn.out]
 rw[bO]at c0;obtain⟨eA,eB,Cz,hsm,wj⟩:=jF;subst Cz;have fP:b<w.heap.size:=dR zk bF.size;obtain⟨W0,aw⟩:∃W0,(w.alloc (zf #[zc (zb ⟨b,o,za⟩) ns.length c,zc (zb ⟨gl,0,za⟩) ns.length cl,zc (zb ⟨gr,0,za⟩) ns.length cr,.string ⟨#[]⟩] 118)).alloc (zf #[zd .i64 4,.slice eA nd.set.length eB,zd .i64 nd.min,zd .i64 nd.max,zd .i64 nd.group] 135)=W0:=⟨_,rfl⟩;have bi:=xq.start (cl:=cl) (cr:=cr) dJ fG bF hp aw;obtain⟨p0,p1,p2,p3⟩:=eG bi.cs.x0;obtain⟨q0,q1,q2,q3,q4⟩:=CP bi.x1;obtain⟨e0,e1⟩:=bi.kids hn;have eC:(0:Int)<=(n:Int):=by omega
 have dg:(n:Int)<(ns.length:Int):=by omega
 have fF:prog.follows .mixedOrders=true:=by kernel_rfl
 rw[hL]at e0;have nH:dO (Pt.jI (bV ns x) (ns.getD n .zero).min (ns.getD n .zero).max)=o6 (dO (bV ns x)) (ns.getD n .zero).min (ns.getD n .zero).max:=rfl;rw[nH]at hN ⊢;have mV:iG (Pt.jI (bV ns x) (ns.getD n .zero).min (ns.getD n .zero).max)=rE (iG (bV ns x)) (ns.getD n .zero).min (ns.getD n .zero).max:=rfl;rw[mV];rw[Hn.out]at hX hN ⊢;clear nH mV hL;have eJ:=ag bi;have bD:=ag aw;have HN:=ag hN;clear dJ fG bF hN bi aw aV wj hk bO hT
 go_enter func67,ntmps67
 go_upto_region 2 with fail
 rw[bD.out];clear bD c0 c1 c2 c3 c4
 go_upto_region 13 with fail
 refine Ie 11 (λw'=>∃n,w'=W0.drewN n) fF ⟨1,rfl⟩ (by decide) (by kernel_rfl) ?_;intro os bN;simp only[mz,vk]at bN;subst bN
 repeat (go_big_quiet_step (fail))
 refine wpQuiet_nil ?_;rintro w' ⟨nq,rfl⟩ r hr;simp only[Dp,Ao]at hr;subst hr
 go_wp2_with fail
 refine(hX p _ (zb ⟨b,o,za⟩) c gl cl gr cr nv bv Ns (eJ.out.cs.br.keep (fy.drewN (p:=p) _ _)) (eJ.out.cs.wt.drewN _) ((fy.drewN (p:=p) _ _).base eJ.out.cs.bl hp) hp HN.out).mono ?_;rintro e W1 ⟨mf,Ms,T,rfl,ng,kG,nO⟩;generalize dg:Ns.length+Ms.length-1=i1 at *;have l5:=ag dg;clear dg;go_wp2;exact aW (v:=zd .i64 (i1:Int)) (by simp[results,results67,go_sem]) rfl ⟨mf,Ms,T,by rw[l5.out],ng,kG,(eJ.out.cs.kp.trans (fy.drewN _ nq)).trans nO⟩
theorem zr2(w0:ze)(ns:List aC)(ha:∀i,i<ns.length->aP (dT ns i)<=(aN ns i).length)(hb:ns.all bk=true):∀n,n<ns.length->tw w0 ns n:=by
 intro n
 induction n using Nat.strongRecOn with
 |ind n ih=>
  intro hn;have AU:bk (ns.getD n .zero)=true:=jR.1 hb (ns.getD n .zero) (by
   rw[bJ,bE hn];exact gA _)
  have pN:=ha n hn;have kX:dT ns n=(ns.getD n .zero).kind:=rfl
  by_cases h1:dT ns n=1
  ·refine zvc w0 ns n hn h1 ?_;unfold bV lD;rw[af (by rw[<-kX];exact h1)]
  by_cases h2:dT ns n=2
  ·obtain⟨x,y,hL,hR,hx,hy,hT⟩:=zmb (ns:=ns) (k:=n) (by rw[h2];rfl) (by rw[h2]at pN;exact pN);refine zvb w0 ns n x y hn h2 ?_ hL hR (ih x hx (by omega)) (ih y hy (by omega));rw[hT];unfold lD;rw[ab (by rw[<-kX];exact h1),af (by rw[<-kX];exact h2)]
   rfl
  by_cases h3:dT ns n=3
  ·obtain⟨x,y,hL,hR,hx,hy,hT⟩:=zmb (ns:=ns) (k:=n) (by rw[h3];rfl) (by rw[h3]at pN;exact pN);refine zu8 w0 ns n x y hn h3 ?_ hL hR (ih x hx (by omega)) (ih y hy (by omega));rw[hT];unfold lD;rw[ab (by rw[<-kX];exact h1),ab (by rw[<-kX];exact h2),af (by rw[<-kX];exact h3)]
   rfl
  by_cases h4:dT ns n=4
  ·obtain⟨x,hL,hx,hT⟩:=zma (ns:=ns) (k:=n) (by rw[h4];rfl) (by rw[h4]at pN;exact pN);have AQ:lz (ns.getD n .zero).min (ns.getD n .zero).max=true:=by
    unfold bk at AU;rw[ab (by rw[<-kX];exact h1),ab (by rw[<-kX];exact λh=>h.elim h2 h3),af (by rw[<-kX];exact h4)]at AU;simp only[fI]at AU;exact AU.1.2
   generalize nK:(ns.getD n .zero).min=mn at *;generalize hmx:(ns.getD n .zero).max=mx at *;simp[lz]at AQ;refine zva w0 ns n x hn h4 ?_ hL ?_
   ·rw[hT,nK,hmx];unfold lD;rw[ab (by rw[<-kX];exact h1),ab (by rw[<-kX];exact h2),ab (by rw[<-kX];exact h3),af (by rw[<-kX];exact h4),nK,hmx]
    rfl
   ·rw[nK,hmx]
    by_cases hm:mx=-1
    ·exact ziS w0 ns x (ih x hx (by omega)) mn.toNat mn mx (by omega) (by omega) (by omega) (.inl ⟨hm,by omega⟩)
    ·exact ziS w0 ns x (ih x hx (by omega)) mx.toNat mn mx (by omega) (by omega) (by omega) (.inr ⟨by omega,by omega⟩)
  have h5:dT ns n=5:=by
   by_cases h5:dT ns n=5
   ·exact h5
   ·exfalso
    unfold bk at AU;rw[ab (by rw[<-kX];exact h1),ab (by rw[<-kX];exact λh=>h.elim h2 h3),ab (by rw[<-kX];exact h4),ab (by rw[<-kX];exact h5)]at AU;cases AU
  obtain⟨x,hL,hx,hT⟩:=zma (ns:=ns) (k:=n) (by rw[h5];rfl) (by rw[h5]at pN;exact pN);refine zu9 w0 ns n x hn h5 ?_ hL (ih x hx (by omega));rw[hT];unfold lD;rw[ab (by rw[<-kX];exact h1),ab (by rw[<-kX];exact h2),ab (by rw[<-kX];exact h3),ab (by rw[<-kX];exact h4)]
  rfl
end
variable {B gl cl gr cr g k:Nat}{w0 wr:ze}{ns:List aC}
structure ja(B:Nat)(w0 wr:ze)(ns:List aC)(gl cl gr cr g k:Nat):Prop where
 below:zh B w0 wr
 left:wr.ownsRow B 3 1 (zc (zb ⟨gl,0,za⟩) ns.length cl) ns.length (tV ns ns.length)
 right:wr.ownsRow B 3 1 (zc (zb ⟨gr,0,za⟩) ns.length cr) ns.length (tW ns ns.length)
 KG:∃xs,wr.ownsRow B 3 1 (zc (zb ⟨g,0,za⟩) ns.length ns.length) ns.length xs/\∀j,j<k->xs[j]?=zb (zd .i64 (fp ns j))
 N8:gl≠g
 Of:gr≠g
 base:B<=wr.heap.size
theorem ja.same{w1:ze}(h:ja B w0 wr ns gl cl gr cr g k)(hb:zh wr.heap.size wr w1):ja B w0 w1 ns gl cl gr cr g k:=
 ⟨aH h.below h.base hb,vb h.left hb,vb h.right hb,by obtain⟨xs,h1,h2⟩:=h.KG;exact⟨xs,vb h1 hb,h2⟩,h.N8,h.Of,cY h.base hb.size⟩
theorem ja.alloc(h:ja B w0 wr ns gl cl gr cr g k)(o:Obj):ja B w0 (wr.alloc o) ns gl cl gr cr g k:=h.same (ax)
theorem ja.drew(h:ja B w0 wr ns gl cl gr cr g k):ja B w0 wr.drew ns gl cl gr cr g k:=h.same (Below.refl _ _).drew
theorem ja.store(h:ja B w0 wr ns gl cl gr cr g k)(u:zg):ja B w0 (wr.setCell ⟨g,k,za⟩ u) ns gl cl gr cr g k:=by
 obtain⟨xs,h1,h2⟩:=h.KG;obtain⟨s1,s2⟩:=h1.stored k u;refine⟨h.below.setCell (qd h1).1 _,sU h.left s2 h.N8,sU h.right s2 h.Of,⟨_,s1,λj hj=>?_⟩,h.N8,h.Of,by simpa [World.setCell]using h.base⟩;rw[List.getElem?_set_ne (by omega)];exact h2 j hj
theorem ja.put(h:ja B w0 wr ns gl cl gr cr g k)(hk:k<ns.length){u:Int}(hu:u=fp ns k):ja B w0 (wr.setCell ⟨g,k,za⟩ (zd .i64 u)) ns gl cl gr cr g (k+1):=by
 subst hu;obtain⟨xs,h1,h2⟩:=h.KG;obtain⟨s1,s2⟩:=h1.stored k (zd .i64 (fp ns k));refine⟨h.below.setCell (qd h1).1 _,sU h.left s2 h.N8,sU h.right s2 h.Of,⟨_,s1,λj hj=>?_⟩,h.N8,h.Of,by simpa [World.setCell]using h.base⟩
 by_cases e:j=k
 ·subst e;rw[List.getElem?_set_self (by have:=h1.1;omega)]
 ·rw[List.getElem?_set_ne (by omega)];exact h2 j (by omega)
theorem ja.vI(h:ja B w0 wr ns gl cl gr cr g k){j:Nat}(hj:j<k)(hn:j<ns.length):wr.cell? ⟨g,j,za⟩=zb (zd .i64 (fp ns j)):=by
 obtain⟨xs,h1,h2⟩:=h.KG;rw[h1.cellAt j (by omega)];exact h2 j hj
theorem ja.zx9(h:ja B w0 wr ns gl cl gr cr g k)(hn:k<ns.length):(∃u,wr.cell? ⟨g,k,za⟩=zb u)/\wr.frozen? ⟨g,k,za⟩=false:=by
 obtain⟨xs,h1,h2⟩:=h.KG;exact⟨TK h1 (by omega),h1.frozenAt k⟩
theorem ja.Mv(h:ja B w0 wr ns gl cl gr cr g k)(hn:k<ns.length):wr.cell? ⟨gl,k,za⟩=zb (zd .i64 (pw ns k)):=by
 rw[h.left.cellAt k (by omega)];simp[tV,hn]
theorem ja.VZ(h:ja B w0 wr ns gl cl gr cr g k)(hn:k<ns.length):wr.cell? ⟨gr,k,za⟩=zb (zd .i64 (ve ns k)):=by
 rw[h.right.cellAt k (by omega)];simp[tW,hn]
theorem ja.lt(h:ja B w0 wr ns gl cl gr cr g k):gl<wr.heap.size/\gr<wr.heap.size/\g<wr.heap.size:=by
 obtain⟨xs,h1,h2⟩:=h.KG;exact⟨Aa h.left,Aa h.right,Aa h1⟩
theorem znP(ha:aP (dT ns k)=2)(hl:2<=(aN ns k).length):∃x y:Nat,pw ns k=x/\ve ns k=y/\x<k/\y<k/\(gf ns k).drop ((gf ns k).length-2)=[fp ns x,fp ns y]:=by
 have hm:∀j,j<(aN ns k).length->(aN ns k).getD j 0<k:=λj hj=>Pb ns k _ (by
  rw[bJ,bE hj];exact gA _)
 refine⟨(aN ns k).getD ((aN ns k).length-2) 0,(aN ns k).getD ((aN ns k).length-1) 0,?_,?_,hm _ (by omega),hm _ (by omega),?_⟩
 ·rw[pw,ha,ab (by omega)]
 ·rw[ve,af ha]
 ·have hw:=OT ns k;have e1:=T7 ns k ((aN ns k).length-2) (by omega);have e2:=T7 ns k ((aN ns k).length-1) (by omega);rw[<-e1,<-e2];apply List.ext_getElem?;intro i;rw[Dq]
  match i with
  |0=>rw[hw,Aq,bE (by omega)];simp[List.getD_eq_getElem?_getD,List.getElem?_eq_getElem (show (aN ns k).length-2<(gf ns k).length by omega)]
  |1=>rw[hw,show (aN ns k).length-2+1=(aN ns k).length-1 by omega,bE (by omega)];simp[List.getD_eq_getElem?_getD,List.getElem?_eq_getElem (show (aN ns k).length-1<(gf ns k).length by omega)]
  |i+2=>rw[Bo (by omega)];simp
theorem znN(ha:aP (dT ns k)=1)(hl:1<=(aN ns k).length):∃x:Nat,pw ns k=x/\x<k/\((gf ns k).drop ((gf ns k).length-1)).getD 0 0=fp ns x:=by
 have hm:∀j,j<(aN ns k).length->(aN ns k).getD j 0<k:=λj hj=>Pb ns k _ (by
  rw[bJ,bE hj];exact gA _)
 refine⟨(aN ns k).getD ((aN ns k).length-1) 0,?_,hm _ (by omega),?_⟩
 ·rw[pw,ha,ab (by omega)]
 ·rw[znD,OT];exact T7 ns k ((aN ns k).length-1) (by omega)
end Go.Proofs.YtfajjdgkiilhfaaGreatDoor
