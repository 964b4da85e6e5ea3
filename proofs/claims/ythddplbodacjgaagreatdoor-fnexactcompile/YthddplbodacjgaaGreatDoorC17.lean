import Derived.Test.YthddplbodacjgaaGreatDoorC16
import Derived.Deep.RegionLaw
import Derived.Deep.RegionHeld3
import Derived.Deep.DrawnRows
namespace Go.Proofs.YthddplbodacjgaaGreatDoor
set_option maxHeartbeats 2000000
set_option maxRecDepth 100000
open Go.RowKit
attribute [local go_sem ↓] Go.wp_at_zero Go.wp_at_succ
section
variable {Ns Ms Ls:List NdX}{T a b U:GT}{lo hi m l k r j p:Nat}{sv nv bv:Value}{w0 w W:World}{M N:GA}
def cpc(c:Nat)(mn mx:Int):Nat:=if mx=-1 then mn.toNat*(c+1)+(c+1) else mn.toNat*(c+1)+(mx-mn).toNat*(c+3)+1
def cnt:Pt->Nat
 |.set _=>1
 |.seq l r=>cnt l+cnt r+1
 |.alt l r=>cnt l+cnt r+1
 |.rep b mn mx=>cpc (cnt b) mn mx
 |.grp b _=>cnt b
structure LbT(Ns:List NdX)(T:GT)(lo hi:Nat):Prop where
 rng:∀i,i<T.ga.n->lo<=T.at i/\T.at i<hi
 inj:∀i j,i<T.ga.n->j<T.ga.n->T.at i=T.at j->i=j
 all:∀(x:Nat) (d:NdX),lo<=x->x<hi->Ns[x]?=some d->(d.k=115/\∃i,i<T.ga.n/\T.at i=x)\/(d.k≠115/\d.k<256/\d.sv=.slice none 0 0)
theorem LbT.more(h:LbT Ns T lo hi)(Ms:List NdX)(hl:hi<=Ns.length):LbT (Ns++Ms) T lo hi:=
 ⟨h.rng,h.inj,fun x d h1 h2 h3=>h.all x d h1 h2 (by rw[ztQ (by omega)] at h3;exact h3)⟩
theorem LbT.leaf{f:Nat->Bool}(hx:Ns[lo]?=some ⟨115,0,0,sv⟩):LbT Ns (.s lo f) lo (lo+1):=by
 refine⟨fun i hi=>?_,fun i j hi hj _=>?_,fun x d h1 h2 h3=>?_⟩
 ·have hi:i<1:=hi;obtain rfl:i=0:=by omega
  exact⟨zuz _,Nat.lt_succ_self _⟩
 ·have hi:i<1:=hi;have hj:j<1:=hj;omega
 ·obtain rfl:x=lo:=by omega
  rw[hx] at h3;cases h3;exact .inl ⟨rfl,0,Nat.zero_lt_one,rfl⟩
theorem LbT.void(hx:Ns[lo]?=some ⟨101,0,0,.slice none 0 0⟩):LbT Ns .e lo (lo+1):=by
 refine⟨fun i hi=>absurd hi (by simp[GT.ga,GA.eps]),fun i j hi=>absurd hi (by simp[GT.ga,GA.eps]),fun x d h1 h2 h3=>?_⟩;obtain rfl:x=lo:=by omega
 rw[hx] at h3;cases h3;exact .inr ⟨by decide,by decide,rfl⟩
theorem LbT.star(h:LbT Ns a lo m)(hx:Ns[m]?=some ⟨42,l,0,.slice none 0 0⟩):LbT Ns (.st a) lo (m+1):=by
 refine⟨fun i hi=>?_,h.inj,fun x d h1 h2 h3=>?_⟩
 ·have:=h.rng i hi;exact⟨this.1,Nat.lt_succ_of_lt this.2⟩
 ·rcases zuC x m with q|q
  ·exact h.all x d h1 q h3
  ·obtain rfl:x=m:=by omega
   rw[hx] at h3;cases h3;exact .inr ⟨by show (42:Nat)≠115;decide,by show (42:Nat)<256;decide,rfl⟩
theorem zrD(hn:T.ga.n=a.ga.n+b.ga.n)(hL:T.lab=a.lab++b.lab)(ha:LbT Ns a lo m)(hb:LbT Ns b m hi)(hk:k≠115)(hk2:k<256)(hlo:lo<=m)(hmh:m<=hi)(hx:Ns[hi]?=some ⟨k,l,r,.slice none 0 0⟩):LbT Ns T lo (hi+1):=by
 have at1:∀i,i<a.ga.n->T.at i=a.at i:=fun i h=>by unfold GT.at;rw[hL];exact zfv h
 have at2:∀i,T.at (a.ga.n+i)=b.at i:=fun i=>by unfold GT.at;rw[hL];exact zgr i
 refine⟨fun i hi'=>?_,fun i j hi' hj' he=>?_,fun x d h1 h2 h3=>?_⟩
 ·rcases zd4 a.ga.n i with h|⟨t,rfl⟩
  ·rw[at1 i h];have:=ha.rng i h;omega
  ·rw[at2];have:=hb.rng t (by omega);omega
 ·rcases zd4 a.ga.n i with h|⟨t,rfl⟩<;>rcases zd4 a.ga.n j with h'|⟨t',rfl⟩
  ·rw[at1 i h,at1 j h'] at he;exact ha.inj i j h h' he
  ·rw[at1 i h,at2] at he;have:=ha.rng i h;have:=hb.rng t' (by omega);omega
  ·rw[at2,at1 j h'] at he;have:=ha.rng j h';have:=hb.rng t (by omega);omega
  ·rw[at2,at2] at he;have:=hb.inj t t' (by omega) (by omega) he;omega
 ·rcases zuC x m with q|q
  ·rcases ha.all x d h1 q h3 with ⟨e,i,hi1,hi2⟩|e
   ·exact .inl ⟨e,i,by omega,by rw[at1 i hi1];exact hi2⟩
   ·exact .inr e
  ·rcases zuC x hi with q2|q2
   ·rcases hb.all x d q q2 h3 with ⟨e,i,hi1,hi2⟩|e
    ·exact .inl ⟨e,a.ga.n+i,by omega,by rw[at2];exact hi2⟩
    ·exact .inr e
   ·obtain rfl:x=hi:=by omega
    rw[hx] at h3;cases h3;exact .inr ⟨hk,hk2,rfl⟩
theorem LbT.seq(ha:LbT Ns a lo m)(hb:LbT Ns b m hi)(hlo:lo<=m)(hmh:m<=hi)(hx:Ns[hi]?=some ⟨113,l,r,.slice none 0 0⟩):LbT Ns (.q a b) lo (hi+1):=zrD rfl rfl ha hb (by decide) (by decide) hlo hmh hx
theorem LbT.alt(ha:LbT Ns a lo m)(hb:LbT Ns b m hi)(hlo:lo<=m)(hmh:m<=hi)(hx:Ns[hi]?=some ⟨111,l,r,.slice none 0 0⟩):LbT Ns (.o a b) lo (hi+1):=zrD rfl rfl ha hb (by decide) (by decide) hlo hmh hx
structure WtT(w0:World)(Ns Ms:List NdX)(M:GA)(k:Nat)(T:GT):Prop where
 at_:AtN w0 (Ns++Ms) T (Ns.length+Ms.length-1)
 ga:T.ga=M
 lb:LbT (Ns++Ms) T Ns.length (Ns.length+Ms.length)
 len:Ms.length=k
 pos:0<k
theorem zb9(l:List NdX)(d:NdX):(l++[d]).length=l.length+1:=by simp
theorem zou(Ns Ms:List NdX)(d:NdX):(Ns++(Ms++[d]))[Ns.length+Ms.length]?=some d:=by
 rw[<-ztD,ztR (by simp)];simp
theorem WtT.leaf{rs:List (Int×Int)}(hr:zan 0 w0 sv rs):WtT w0 Ns [⟨115,0,0,sv⟩] (.one (hasF rs)) 1 (.s Ns.length (hasF rs)):=by
 have hx:(Ns++[(⟨115,0,0,sv⟩:NdX)])[Ns.length]?=some ⟨115,0,0,sv⟩:=by simp
 exact⟨⟨by simp,sv,rs,by simp,hr,fun _=>rfl⟩,rfl,LbT.leaf hx,rfl,Nat.zero_lt_one⟩
theorem WtT.void:WtT w0 Ns [⟨101,0,0,.slice none 0 0⟩] (.eps true) 1 .e:=by
 have hx:(Ns++[(⟨101,0,0,.slice none 0 0⟩:NdX)])[Ns.length]?=some ⟨101,0,0,.slice none 0 0⟩:=by simp
 refine⟨?_,rfl,LbT.void hx,rfl,Nat.zero_lt_one⟩;show (Ns++[_])[Ns.length+1-1]?=_;simp
theorem WtT.star(h:WtT w0 Ns Ms M k T):WtT w0 Ns (Ms++[⟨42,Ns.length+Ms.length-1,0,.slice none 0 0⟩]) M.star (k+1) (.st T):=by
 have hx:=zou Ns Ms ⟨42,Ns.length+Ms.length-1,0,.slice none 0 0⟩;have hm:AtN w0 (Ns++(Ms++[(⟨42,Ns.length+Ms.length-1,0,.slice none 0 0⟩:NdX)])) T (Ns.length+Ms.length-1):=by rw[<-ztD];exact h.at_.more _
 have hb:LbT (Ns++(Ms++[(⟨42,Ns.length+Ms.length-1,0,.slice none 0 0⟩:NdX)])) T Ns.length (Ns.length+Ms.length):=by rw[<-ztD];exact h.lb.more _ (by simp)
 refine⟨⟨_,?_,hm⟩,by show T.ga.star=_;rw[h.ga],?_,by simp[h.len],by omega⟩
 ·rw[show Ns.length+(Ms++[(⟨42,Ns.length+Ms.length-1,0,.slice none 0 0⟩:NdX)]).length-1=Ns.length+Ms.length by simp];exact hx
 ·rw[show Ns.length+(Ms++[(⟨42,Ns.length+Ms.length-1,0,.slice none 0 0⟩:NdX)]).length=Ns.length+Ms.length+1 by simp;omega];exact hb.star hx
theorem zqb(h:WtT w0 Ns Ms M k T)(g:WtT w0 (Ns++Ms) Ls N j U)(d:NdX):
  (Ns++(Ms++Ls++[d]))[Ns.length+(Ms++Ls).length]?=some d/\AtN w0 (Ns++(Ms++Ls++[d])) T (Ns.length+Ms.length-1)/\AtN w0 (Ns++(Ms++Ls++[d])) U ((Ns++Ms).length+Ls.length-1)/\
   LbT (Ns++(Ms++Ls++[d])) T Ns.length (Ns.length+Ms.length)/\LbT (Ns++(Ms++Ls++[d])) U (Ns.length+Ms.length) (Ns.length+(Ms++Ls).length):=by
 have e:Ns++(Ms++Ls++[d])=((Ns++Ms)++Ls)++[d]:=by simp
 have e2:Ns++(Ms++Ls++[d])=(Ns++Ms)++(Ls++[d]):=by simp
 refine⟨zou Ns (Ms++Ls) d,?_,?_,?_,?_⟩
 ·rw[e2];exact h.at_.more _
 ·rw[e];exact g.at_.more _
 ·rw[e2];exact h.lb.more _ (by simp)
 ·have:=g.lb.more [d] (by simp;omega);rw[e];rw[zt1,<-Nat.add_assoc];rw[zt1] at this;exact this
theorem WtT.seq(h:WtT w0 Ns Ms M k T)(g:WtT w0 (Ns++Ms) Ls N j U):WtT w0 Ns (Ms++Ls++[⟨113,Ns.length+Ms.length-1,(Ns++Ms).length+Ls.length-1,.slice none 0 0⟩]) (M.seq N) (k+j+1) (.q T U):=by
 obtain⟨hx,h1,h2,h3,h4⟩:=zqb h g ⟨113,Ns.length+Ms.length-1,(Ns++Ms).length+Ls.length-1,.slice none 0 0⟩;refine⟨⟨_,_,?_,h1,h2⟩,by show T.ga.seq U.ga=_;rw[h.ga,g.ga],?_,by rw[zt1,zt1,h.len,g.len];rfl,by omega⟩
 ·rw[show Ns.length+(Ms++Ls++[(⟨113,Ns.length+Ms.length-1,(Ns++Ms).length+Ls.length-1,.slice none 0 0⟩:NdX)]).length-1=Ns.length+(Ms++Ls).length by rw[zb9];rfl];exact hx
 ·rw[show Ns.length+(Ms++Ls++[(⟨113,Ns.length+Ms.length-1,(Ns++Ms).length+Ls.length-1,.slice none 0 0⟩:NdX)]).length=Ns.length+(Ms++Ls).length+1 by rw[zb9];rfl];exact h3.seq h4 (by omega) (by simp) hx
theorem WtT.alt(h:WtT w0 Ns Ms M k T)(g:WtT w0 (Ns++Ms) Ls N j U):WtT w0 Ns (Ms++Ls++[⟨111,Ns.length+Ms.length-1,(Ns++Ms).length+Ls.length-1,.slice none 0 0⟩]) (M.alt N) (k+j+1) (.o T U):=by
 obtain⟨hx,h1,h2,h3,h4⟩:=zqb h g ⟨111,Ns.length+Ms.length-1,(Ns++Ms).length+Ls.length-1,.slice none 0 0⟩;refine⟨⟨_,_,?_,h1,h2⟩,by show T.ga.alt U.ga=_;rw[h.ga,g.ga],?_,by rw[zt1,zt1,h.len,g.len];rfl,by omega⟩
 ·rw[show Ns.length+(Ms++Ls++[(⟨111,Ns.length+Ms.length-1,(Ns++Ms).length+Ls.length-1,.slice none 0 0⟩:NdX)]).length-1=Ns.length+(Ms++Ls).length by rw[zb9];rfl];exact hx
 ·rw[show Ns.length+(Ms++Ls++[(⟨111,Ns.length+Ms.length-1,(Ns++Ms).length+Ls.length-1,.slice none 0 0⟩:NdX)]).length=Ns.length+(Ms++Ls).length+1 by rw[zb9];rfl];exact h3.alt h4 (by omega) (by simp) hx
def nxC(Ns:List NdX):List Value:=Ns.flatMap nx4
theorem zq4(Ns:List NdX)(d:NdX):nxC (Ns++[d])=nxC Ns++nx4 d:=by simp[nxC]
structure WtX(p:Nat)(W:World)(nv bv:Value)(Ns:List NdX):Prop where
 box:W.heap[p]?=some (.cells #[nv,bv] 45 (0,0))
 own:W.ownsRow (p+1) 85 4 nv Ns.length (nxC Ns)
structure KpW(p:Nat)(w W:World):Prop where
 os:W.os=w.os
 tape:W.tape=w.tape
 output:W.output=w.output
 size:w.heap.size<=W.heap.size
 low:∀k,k<p->W.heap[k]?=w.heap[k]?
 typ:∀(k:Nat) (cs:Array Value) (t:TypeId),w.heap[k]?=some (.cells cs t (0,0))->t≠45->t≠85->W.heap[k]?=some (.cells cs t (0,0))
theorem KpW.trans{a b c:World}(h:KpW p a b)(k:KpW p b c):KpW p a c:=
 ⟨k.os.trans h.os,k.tape.trans h.tape,k.output.trans h.output,zuA h.size k.size,fun i hi=>(k.low i hi).trans (h.low i hi),fun i cs t e h1 h2=>k.typ i cs t (h.typ i cs t e h1 h2) h1 h2⟩
theorem KpW.of_below(hB:p<=w.heap.size)(h:Below w.heap.size w W):KpW p w W:=
 ⟨h.os,h.tape,h.output,h.size,fun k hk=>h.block k (by omega),fun k cs t e _ _=>(h.block k (zae e)).trans e⟩
theorem WtX.below{W':World}(h:WtX p W nv bv Ns)(hb:Below W.heap.size W W'):WtX p W' nv bv Ns:=
 ⟨(hb.block p (zae h.box)).trans h.box,zbB h.own fun b hb'=>hb.block b (zbs h.own hb').2⟩
theorem WtX.form(h:WtX p W nv bv Ns):∃ao cap,nv=.slice ao Ns.length cap:=by
 rcases h.own.2 with ⟨h,h0⟩|⟨g,cap,_,h,_⟩
 ·exact⟨none,0,by rw[h,h0]⟩
 ·exact⟨_,_,h⟩
theorem zdc{a b:Array Value}{t u:TypeId}{f g:Nat×Nat}(h:some (Obj.cells a t f)=some (Obj.cells b u g)):t=u:=by cases h;rfl
theorem zdM{B n sz:Nat}{e:TypeId}{v:Value}{xs:List Value}(h:w.ownsRow B e sz v n xs){b:Nat}(hb:v.ownBlock=some b):∃cur:Array Value,w.heap[b]?=some (.cells cur e (0,0)):=by
 rcases h.2 with ⟨rfl,_⟩|⟨g,cap,cur,rfl,_,hh,_⟩
 ·simp[Value.ownBlock] at hb
 ·simp[Value.ownBlock] at hb;subst hb;exact⟨cur,hh⟩
theorem WtX.added{W1 W9:World}{d:NdX}{g cap:Nat}(h:WtX p W nv bv Ns)(hb:Below W.heap.size W W1)(own9:W9.ownsRow (p+1) 85 4 (.slice (some ⟨g,0,none⟩) (Ns.length+1) cap) (Ns.length+1) (nxC Ns++nx4 d))(grow9:W1.grownBy W9 nv.ownBlock):
  W9.heap[p]?=some (.cells #[nv,bv] 45 (0,0))/\WtX p (W9.setCell ⟨p,0,none⟩ (.slice (some ⟨g,0,none⟩) (Ns.length+1) cap)) (.slice (some ⟨g,0,none⟩) (Ns.length+1) cap) bv (Ns++[d])/\KpW p W (W9.setCell ⟨p,0,none⟩ (.slice (some ⟨g,0,none⟩) (Ns.length+1) cap)):=by
 have h1:=h.below hb;have hlt:=zae h1.box;have hne:nv.ownBlock≠some p:=fun e=>by have:=(zbs h1.own e).1;omega
 have hbx:W9.heap[p]?=some (.cells #[nv,bv] 45 (0,0)):=(grow9.block p hlt (fun e=>hne e.symm)).trans h1.box;have keep9:∀(k:Nat) (cs:Array Value) (t:TypeId),W.heap[k]?=some (.cells cs t (0,0))->t≠85->W9.heap[k]?=some (.cells cs t (0,0)):=fun k cs t e ht=>by
  have e1:=(hb.block k (zae e)).trans e;refine(grow9.block k (zae e1) (fun e2=>?_)).trans e1;obtain⟨cur,e3⟩:=zdM h1.own e2.symm;rw[e1] at e3;exact ht (zdc e3)
 have hput:=zaN W9 p 0 (.slice (some ⟨g,0,none⟩) (Ns.length+1) cap);refine⟨hbx,⟨?_,?_⟩,⟨grow9.os.trans hb.os,grow9.tape.trans hb.tape,grow9.output.trans hb.output,?_,?_,?_⟩⟩
 ·have:=zuT W9 p 0 _ _ (.slice (some ⟨g,0,none⟩) (Ns.length+1) cap) hbx;exact this
 ·rw[zq4,zt1,zt7];refine zbB own9 fun b hb'=>?_
  have:=(zbs own9 hb').1;exact zuS _ _ _ _ (by simp;omega)
 ·exact zuA hb.size (zuA grow9.size hput.size)
 ·intro k hk;rw[zuS _ _ _ _ (by simp;omega)];have e1:W1.heap[k]?=W.heap[k]?:=hb.block k (by have:=zae h.box;omega);rw[<-e1];exact grow9.block k (by omega) (fun e=>by have:=(zbs h1.own e.symm).1;omega)
 ·intro k cs t e ht1 ht2;have e9:=keep9 k cs t e ht2;refine(zuS _ _ _ _ (fun e2=>?_)).trans e9;simp at e2;subst e2;rw[hbx] at e9;exact ht1 (zdc e9).symm
end
theorem Tryz.infoNdX:(Tryz.prog.info? 85).map (fun i=>(i.zero,i.size,i.bytes))=some (some (.agg #[.int .u8 0,.int .i64 0,.int .i64 0,.slice none 0 0]),4,48):=by kernel_rfl
theorem zjQ{w:World}{B:Nat}{a b c d:Value}{t:TypeId}(h:w.heap[B]?=some (.cells #[a,b,c,d] t (0,0))):∀j u,[a,b,c,d][j]?=some u->w.cell? ((⟨B,0,none⟩:Addr).add j)=some u:=World.news_of_block h
theorem zdS(p k l r:Nat)(so:Option Addr)(sn sc:Nat)(w:World)(nv bv:Value)(Ns:List NdX)(hW:WtX p w nv bv Ns)(hN:Ns.length<=8589934592):
  Calls Tryz.prog 71 #[.pointer (some ⟨p,0,none⟩),.agg #[.int .u8 k,.int .i64 l,.int .i64 r,.slice so sn sc]] w fun e W=>e=.returned (.int .i64 Ns.length)/\(∃nv',WtX p W nv' bv (Ns++[⟨k,l,r,.slice so sn sc⟩]))/\KpW p w W:=by
 obtain⟨i0,hi,hz0,hz1,hz2⟩:=info_parts Tryz.infoNdX;obtain⟨ao,cap,rfl⟩:=hW.form;have hlt:=zae hW.box;have hpB:p+1<=w.heap.size:=hlt;have hown:∀W1,Below w.heap.size w W1->W1.ownsRow (p+1) 85 4 (.slice ao Ns.length cap) Ns.length (nxC Ns):=fun W1 hb=>(hW.below hb).own
 obtain⟨W0,hW0⟩:∃W0,w.alloc (.cells #[.int .u8 k,.int .i64 l,.int .i64 r,.slice so sn sc] 85)=W0:=⟨_,rfl⟩;have b0:Below w.heap.size w W0:=by rw[<-hW0];exact(Below.refl _ _).alloc (zuz _) _
 have x0:W0.heap[w.heap.size]?=some (.cells #[.int .u8 k,.int .i64 l,.int .i64 r,.slice so sn sc] 85 (0,0)):=by rw[<-hW0];exact zuR _ _
 have s0:W0.heap.size=w.heap.size+1:=by rw[<-hW0];simp
 obtain⟨q0,q1,q2,q3⟩:=zam x0;obtain⟨p0,p1⟩:=zal ((b0.block p hlt).trans hW.box);have hadd:∀W1 W9 g cap9,Below w.heap.size w W1->W9.ownsRow (p+1) 85 4 (.slice (some ⟨g,0,none⟩) (Ns.length+1) cap9) (Ns.length+1) (nxC Ns++[.int .u8 k,.int .i64 l,.int .i64 r,.slice so sn sc])->W1.grownBy W9 (Value.slice ao Ns.length cap).ownBlock->_:=fun W1 W9 g cap9 h1 h2 h3=>hW.added (d:=⟨k,l,r,.slice so sn sc⟩) h1 h2 h3
 have HW0:=hdn hW0;have HW:=hdn hW;have HB0:=hdn b0;have HAD:=hdn hadd;have hs0:w.heap.size<=W0.heap.size:=b0.size;have hpl:p<W0.heap.size:=by omega
 clear hW0 hW x0 b0 hadd s0
 go_enter Tryz.func71,Tryz.ntmps71
 go_upto_region 1 with fail
 rw[HW0.out];clear HW0
 go_region_law ((refine step_append_lies _ (by rfl) (.tmp 9) (.tmp 11) 42 (by rfl) (p+1) 85 i0 _ 4 48 Tryz.underlying42 hi hz0 hz1 hz2 rfl (by omega) (.slice ao Ns.length cap) Ns.length (nxC Ns) (by rfl) (hown _ (by first|exact(HB0.out.drew.alloc (by show _<=W0.heap.size;omega) _)|exact(HB0.out.alloc (by omega) _).drew)) ⟨W0.heap.size,0,none⟩ 1 1 [.int .u8 k,.int .i64 l,.int .i64 r,.slice so sn sc] (by rfl) rfl (zjQ (by first|exact zuR _ _|exact ziT (zuR _ _))) (by intro u hu;simp at hu;rcases hu with rfl|rfl|rfl|rfl<;>rfl) (by omega) (by unfold maxLen;omega) (by omega) (by simp;omega) (W0.heap.size+1) (by simp) ?_;intro g cap9 w9 own9 grow9 at9 lt9;obtain⟨bx9,wt9,kp9⟩:=HAD.out _ w9 g cap9 (by first|exact(HB0.out.drew.alloc (by show _<=W0.heap.size;omega) _)|exact(HB0.out.alloc (by omega) _).drew) own9 grow9;obtain⟨y0,y1⟩:=zal bx9;have f9:=zuQ _ _ 0 _ _ bx9))
 all_goals
  have z9:=(zal wt9.box).1;have HT9:=hdn wt9;have HK9:=hdn kp9;generalize hW9:w9.setCell ⟨p,0,none⟩ (.slice (some ⟨g,0,none⟩) (Ns.length+1) cap9)=W9 at *;clear hW9 wt9 kp9 own9 grow9 at9 lt9 bx9 y0 y1 f9 p0 p1 q0 q1 q2 q3;have hwr:IntKind.i64.wrap ((Ns.length:Int)+1-1)=(Ns.length:Int):=by rw[IntKind.wrap_i64];omega
  go_wp2;refine zuN (v:=.int .i64 Ns.length) (by simp[results,Tryz.results71,go_sem]) rfl ⟨rfl,⟨_,HT9.out⟩,HK9.out⟩
section
variable {w0 W W' w:World}{ns:List zau}{gl gr p c cl cr:Nat}{ao:Option Addr}{nv bv:Value}{Ns:List NdX}
structure BrW(w0 W:World)(ns:List zau)(vn:Value)(gl gr:Nat):Prop where
 nodes:zaP 0 w0 vn ns
 left:∃cs,W.heap[gl]?=some (.cells cs 3 (0,0))/\∀i,i<ns.length->cs[i]?=some (.int .i64 (zch ns i))
 right:∃cs,W.heap[gr]?=some (.cells cs 3 (0,0))/\∀i,i<ns.length->cs[i]?=some (.int .i64 (zcu ns i))
theorem BrW.keep{vn:Value}(h:BrW w0 W ns vn gl gr)(k:KpW p W W'):BrW w0 W' ns vn gl gr:=by
 obtain⟨h1,⟨cs,h2,h3⟩,cs',h4,h5⟩:=h;exact⟨h1,⟨cs,k.typ _ _ _ h2 (by decide) (by decide),h3⟩,cs',k.typ _ _ _ h4 (by decide) (by decide),h5⟩
theorem KpW.base(k:KpW p w W)(hb:Below w0.heap.size w0 w)(hp:w0.heap.size<=p):Below w0.heap.size w0 W:=
 ⟨k.os.trans hb.os,k.tape.trans hb.tape,k.output.trans hb.output,zuA hb.size k.size,fun i hi=>(k.low i (by omega)).trans (hb.block i hi)⟩
def WtR(w0:World)(p:Nat)(w:World)(bv:Value)(Ns:List NdX)(M:GA)(k:Nat)(e:Ending)(W:World):Prop:=
 ∃nv Ms T,e=.returned (.int .i64 ((Ns.length+Ms.length-1:Nat):Int))/\WtX p W nv bv (Ns++Ms)/\WtT w0 Ns Ms M k T/\KpW p w W
def WtC(w0:World)(ns:List zau)(n:Nat):Prop:=∀(p:Nat) (w:World) (ao:Option Addr) (c gl cl gr cr:Nat) (nv bv:Value) (Ns:List NdX),BrW w0 w ns (.slice ao ns.length c) gl gr->WtX p w nv bv Ns->Below w0.heap.size w0 w->w0.heap.size<=p->Ns.length+cnt (tOf ns n)<=8589934592->
 Calls Tryz.prog 35 #[.pointer (some ⟨p,0,none⟩),.agg #[.slice ao ns.length c,.slice (some ⟨gl,0,none⟩) ns.length cl,.slice (some ⟨gr,0,none⟩) ns.length cr,.string ⟨#[]⟩],.int .i64 n] w fun e W=>WtR w0 p w bv Ns (unf (tOf ns n)) (cnt (tOf ns n)) e W
structure CpS(w0:World)(p:Nat)(w W:World)(ns:List zau)(ao:Option Addr)(c gl cl gr cr:Nat)(nv bv:Value)(Ns:List NdX):Prop where
 br:BrW w0 W ns (.slice ao ns.length c) gl gr
 wt:WtX p W nv bv Ns
 kp:KpW p w W
 bl:Below w0.heap.size w0 W
 x0:W.heap[w.heap.size]?=some (.cells #[.slice ao ns.length c,.slice (some ⟨gl,0,none⟩) ns.length cl,.slice (some ⟨gr,0,none⟩) ns.length cr,.string ⟨#[]⟩] 79 (0,0))
theorem CpS.step{nv':Value}{Ms:List NdX}(h:CpS w0 p w W ns ao c gl cl gr cr nv bv Ns)(hp:w0.heap.size<=p)(k:KpW p W W')(hw:WtX p W' nv' bv Ms):CpS w0 p w W' ns ao c gl cl gr cr nv' bv Ms:=
 ⟨h.br.keep k,hw,h.kp.trans k,k.base h.bl hp,k.typ _ _ _ h.x0 (by decide) (by decide)⟩
theorem CpS.start(hbr:BrW w0 w ns (.slice ao ns.length c) gl gr)(hw:WtX p w nv bv Ns)(hbl:Below w0.heap.size w0 w)(hp:w0.heap.size<=p)
  (hW:w.alloc (.cells #[.slice ao ns.length c,.slice (some ⟨gl,0,none⟩) ns.length cl,.slice (some ⟨gr,0,none⟩) ns.length cr,.string ⟨#[]⟩] 79)=W):CpS w0 p w W ns ao c gl cl gr cr nv bv Ns:=by
 subst hW;have hb:Below w.heap.size w (w.alloc (.cells #[.slice ao ns.length c,.slice (some ⟨gl,0,none⟩) ns.length cl,.slice (some ⟨gr,0,none⟩) ns.length cr,.string ⟨#[]⟩] 79)):=(Below.refl _ _).alloc (zuz _) _;have k:=KpW.of_below (p:=p) (Nat.le_of_lt (zae hw.box)) hb;exact⟨hbr.keep k,hw.below hb,k,k.base hbl hp,zuR _ _⟩
def CpC(w0:World)(ns:List zau)(n:Nat)(mn mx:Int):Prop:=∀(p:Nat) (w:World) (ao:Option Addr) (c gl cl gr cr:Nat) (nv bv:Value) (Ns:List NdX),BrW w0 w ns (.slice ao ns.length c) gl gr->WtX p w nv bv Ns->Below w0.heap.size w0 w->w0.heap.size<=p->Ns.length+cpc (cnt (tOf ns n)) mn mx<=8589934592->
 Calls Tryz.prog 72 #[.pointer (some ⟨p,0,none⟩),.agg #[.slice ao ns.length c,.slice (some ⟨gl,0,none⟩) ns.length cl,.slice (some ⟨gr,0,none⟩) ns.length cr,.string ⟨#[]⟩],.int .i64 n,.int .i64 mn,.int .i64 mx] w fun e W=>WtR w0 p w bv Ns (repG (unf (tOf ns n)) mn mx) (cpc (cnt (tOf ns n)) mn mx) e W
theorem zkO(w0:World)(ns:List zau)(n:Nat)(hW:WtC w0 ns n):CpC w0 ns n 0 (-1):=by
 intro p w ao c gl cl gr cr nv bv Ns hbr hwt hbl hp hN;have hcp:cpc (cnt (tOf ns n)) 0 (-1)=cnt (tOf ns n)+1:=by simp[cpc]
 rw[hcp] at hN ⊢;rw[zeD];obtain⟨W0,hW0⟩:∃W0,w.alloc (.cells #[.slice ao ns.length c,.slice (some ⟨gl,0,none⟩) ns.length cl,.slice (some ⟨gr,0,none⟩) ns.length cr,.string ⟨#[]⟩] 79)=W0:=⟨_,rfl⟩;have hS0:=CpS.start (cl:=cl) (cr:=cr) hbr hwt hbl hp hW0;have cw:=hW p W0 ao c gl cl gr cr nv bv Ns hS0.br hS0.wt hS0.bl hp (by omega);obtain⟨p0,p1,p2,p3⟩:=zam hS0.x0;have HS0:=hdn hS0;have HW0:=hdn hW0;have HN:=hdn hN;clear hbr hwt hbl hN hcp hS0 hW0
 go_enter Tryz.func72,Tryz.ntmps72
 go_upto_region 1 with fail
 rw[HW0.out];clear HW0
 go_wp2_with fail
 refine cw.mono ?_;rintro e W1 ⟨nv1,Ms,T,rfl,wt1,tt1,kp1⟩;have HS1:=hdn (HS0.out.step hp kp1 wt1);have HT1:=hdn tt1;have hl1:(Ns++Ms).length<=8589934592:=by have:=tt1.len;have:=HN.out;simp;omega
 have ca:=zdS p 42 (Ns.length+Ms.length-1) 0 none 0 0 W1 nv1 bv (Ns++Ms) wt1 hl1;generalize hi1:Ns.length+Ms.length-1=i1 at *;have HI1:=hdn hi1;clear cw wt1 tt1 kp1 hl1 hi1 p0 p1 p2 p3
 go_wp2_with fail
 refine ca.mono ?_;rintro e W2 ⟨rfl,⟨nv2,wt2⟩,kp2⟩;clear ca;go_wp2;refine zuN (v:=.int .i64 (((Ns++Ms).length:Nat):Int)) (by simp[results,Tryz.results72,go_sem]) rfl ⟨nv2,Ms++[⟨42,i1,0,.slice none 0 0⟩],.st T,?_,?_,?_,(HS1.out.kp.trans kp2)⟩
 ·simp
 ·rw[<-ztD];exact wt2
 ·have:=HT1.out.star;rw[HI1.out] at this;exact this
theorem zkP(w0:World)(ns:List zau)(n:Nat):CpC w0 ns n 0 0:=by
 intro p w ao c gl cl gr cr nv bv Ns hbr hwt hbl hp hN;have hcp:cpc (cnt (tOf ns n)) 0 0=1:=by simp[cpc]
 rw[hcp] at hN ⊢;rw[zre];obtain⟨W0,hW0⟩:∃W0,w.alloc (.cells #[.slice ao ns.length c,.slice (some ⟨gl,0,none⟩) ns.length cl,.slice (some ⟨gr,0,none⟩) ns.length cr,.string ⟨#[]⟩] 79)=W0:=⟨_,rfl⟩;have hS0:=CpS.start (cl:=cl) (cr:=cr) hbr hwt hbl hp hW0;have ca:=zdS p 101 0 0 none 0 0 W0 nv bv Ns hS0.wt (by omega);have HS0:=hdn hS0;have HW0:=hdn hW0;clear hbr hwt hbl hN hcp hS0 hW0
 go_enter Tryz.func72,Tryz.ntmps72
 go_upto_region 1 with fail
 rw[HW0.out];clear HW0
 go_wp2_with fail
 refine ca.mono ?_;rintro e W2 ⟨rfl,⟨nv2,wt2⟩,kp2⟩;clear ca;go_wp2;refine zuN (v:=.int .i64 ((Ns.length:Nat):Int)) (by simp[results,Tryz.results72,go_sem]) rfl ⟨nv2,[⟨101,0,0,.slice none 0 0⟩],.e,?_,wt2,WtT.void,(HS0.out.kp.trans kp2)⟩;simp
theorem zgv(w0:World)(ns:List zau)(n:Nat)(mn mx mr:Int)(hW:WtC w0 ns n)(h0:0<mn)(hx:(mx=-1/\mr=-1)\/(0<mx/\mn<=mx/\mr=mx-1))(hmn:mn<=1000)(hmx:mx<=1000)(hC:CpC w0 ns n (mn-1) mr):CpC w0 ns n mn mx:=by
 intro p w ao c gl cl gr cr nv bv Ns hbr hwt hbl hp hN;have hcp:cpc (cnt (tOf ns n)) mn mx=cnt (tOf ns n)+cpc (cnt (tOf ns n)) (mn-1) mr+1:=by
  obtain⟨k,rfl⟩:∃k:Nat,mn=k+1:=⟨(mn-1).toNat,by omega⟩;unfold cpc;rcases hx with ⟨rfl,rfl⟩|⟨h1,h2,rfl⟩
  ·rw[zuV rfl,zuV rfl,show ((k:Int)+1).toNat=k+1 by omega,show ((k:Int)+1-1).toNat=k by omega,zuJ];omega
  ·rw[zuU (by omega),zuU (by omega),show ((k:Int)+1).toNat=k+1 by omega,show ((k:Int)+1-1).toNat=k by omega,show mx-1-(k+1-1)=mx-(k+1) by omega,zuJ];omega
 have hrp:repG (unf (tOf ns n)) mn mx=(unf (tOf ns n)).seq (repG (unf (tOf ns n)) (mn-1) mr):=by
  rcases zrd (unf (tOf ns n)) mn mx h0 with h|h
  ·rw[h];rcases hx with ⟨rfl,rfl⟩|⟨h1,h2,rfl⟩
   ·rfl
   ·rw[zuV (by omega)]
  ·omega
 rw[hcp] at hN ⊢;rw[hrp];obtain⟨W0,hW0⟩:∃W0,w.alloc (.cells #[.slice ao ns.length c,.slice (some ⟨gl,0,none⟩) ns.length cl,.slice (some ⟨gr,0,none⟩) ns.length cr,.string ⟨#[]⟩] 79)=W0:=⟨_,rfl⟩;have hS0:=CpS.start (cl:=cl) (cr:=cr) hbr hwt hbl hp hW0;have cw:=hW p W0 ao c gl cl gr cr nv bv Ns hS0.br hS0.wt hS0.bl hp (by omega);obtain⟨p0,p1,p2,p3⟩:=zam hS0.x0;have HS0:=hdn hS0;have HW0:=hdn hW0;have HN:=hdn hN;have HX:=hdn hx;have hm0:¬mn=0:=by omega
 have hwm:IntKind.i64.wrap (mn-1)=mn-1:=by rw[IntKind.wrap_i64];omega
 have hx0:¬mx=0:=by omega
 clear hbr hwt hbl hN hcp hS0 hW0 hrp hx;have fin:∀(W1:World) (nv1:Value) (Ms:List NdX) (T:GT),WtX p W1 nv1 bv (Ns++Ms)->WtT w0 Ns Ms (unf (tOf ns n)) (cnt (tOf ns n)) T->KpW p W0 W1->CpS w0 p w W1 ns ao c gl cl gr cr nv1 bv (Ns++Ms)/\Calls Tryz.prog 72 #[.pointer (some ⟨p,0,none⟩),.agg #[.slice ao ns.length c,.slice (some ⟨gl,0,none⟩) ns.length cl,.slice (some ⟨gr,0,none⟩) ns.length cr,.string ⟨#[]⟩],.int .i64 n,.int .i64 (mn-1),.int .i64 mr] W1 fun e W2=>∃nv2 Ls U,e=.returned (.int .i64 (((Ns++Ms).length+Ls.length-1:Nat):Int))/\WtX p W2 nv2 bv (Ns++(Ms++Ls))/\KpW p w W2/\(Ns++(Ms++Ls)).length<=8589934592/\WtT w0 Ns (Ms++Ls++[⟨113,Ns.length+Ms.length-1,(Ns++Ms).length+Ls.length-1,.slice none 0 0⟩]) ((unf (tOf ns n)).seq (repG (unf (tOf ns n)) (mn-1) mr)) (cnt (tOf ns n)+cpc (cnt (tOf ns n)) (mn-1) mr+1) (.q T U):=by
  intro W1 nv1 Ms T wt1 tt1 kp1;have s1:=HS0.out.step hp kp1 wt1;refine⟨s1,(hC p W1 ao c gl cl gr cr nv1 bv (Ns++Ms) s1.br s1.wt s1.bl hp (by have:=tt1.len;have:=HN.out;rw[zt1];omega)).mono ?_⟩;rintro e W2 ⟨nv2,Ls,U,rfl,wt2,tt2,kp2⟩;refine⟨nv2,Ls,U,rfl,by rw[<-ztD];exact wt2,s1.kp.trans kp2,?_,tt1.seq tt2⟩;have:=tt1.len;have:=tt2.len;have:=HN.out;rw[zt1,zt1];omega
 have HF:=hdn fin;clear fin
 go_enter Tryz.func72,Tryz.ntmps72
 go_upto_region 1 with fail
 rw[HW0.out];clear HW0;rcases HX.out with ⟨rfl,rfl⟩|⟨h1,h2,rfl⟩
 all_goals
  (try (have hwx:IntKind.i64.wrap (mx-1)=mx-1:=by rw[IntKind.wrap_i64];omega))
  go_wp2_with fail
  refine cw.mono ?_;rintro e W1 ⟨nv1,Ms,T,rfl,wt1,tt1,kp1⟩;obtain⟨s1,cc⟩:=HF.out W1 nv1 Ms T wt1 tt1 kp1;obtain⟨p0,p1,p2,p3⟩:=zam s1.x0;generalize hi1:Ns.length+Ms.length-1=i1 at *;clear wt1 tt1 kp1 s1 cw hi1
  go_wp2_with fail
  refine cc.mono ?_;rintro e W2 ⟨nv2,Ls,U,rfl,wt2,kp2,hl2,tt2⟩;have HT2:=hdn tt2;have HK2:=hdn kp2;generalize hi2:(Ns++Ms).length+Ls.length-1=i2 at *;have ca:=zdS p 113 i1 i2 none 0 0 W2 nv2 bv (Ns++(Ms++Ls)) wt2 hl2;clear cc tt2 kp2 wt2 hl2 hi2
  go_wp2_with fail
  refine ca.mono ?_;rintro e W3 ⟨rfl,⟨nv3,wt3⟩,kp3⟩;clear ca;go_wp2;refine zuN (v:=.int .i64 (((Ns++(Ms++Ls)).length:Nat):Int)) (by simp[results,Tryz.results72,go_sem]) rfl ⟨nv3,Ms++Ls++[⟨113,i1,i2,.slice none 0 0⟩],.q T U,?_,?_,HT2.out,HK2.out.trans kp3⟩
  ·rw[zb9,zt1];rfl
  ·rw[<-ztD];exact wt3
theorem zkL(w0:World)(ns:List zau)(n:Nat)(mx:Int)(hW:WtC w0 ns n)(h0:0<mx)(hmx:mx<=1000)(hC:CpC w0 ns n 0 (mx-1)):CpC w0 ns n 0 mx:=by
 intro p w ao c gl cl gr cr nv bv Ns hbr hwt hbl hp hN;have hcp:cpc (cnt (tOf ns n)) 0 mx=(cnt (tOf ns n)+cpc (cnt (tOf ns n)) 0 (mx-1)+1)+1+1:=by
  obtain⟨k,rfl⟩:∃k:Nat,mx=k+1:=⟨(mx-1).toNat,by omega⟩;unfold cpc;rw[zuU (by omega),zuU (by omega),show ((k:Int)+1-0).toNat=k+1 by omega,show ((k:Int)+1-1-0).toNat=k by omega,zuJ];omega
 have hrp:=zrc (unf (tOf ns n)) mx h0;rw[hcp] at hN ⊢;rw[hrp];obtain⟨W0,hW0⟩:∃W0,w.alloc (.cells #[.slice ao ns.length c,.slice (some ⟨gl,0,none⟩) ns.length cl,.slice (some ⟨gr,0,none⟩) ns.length cr,.string ⟨#[]⟩] 79)=W0:=⟨_,rfl⟩;have hS0:=CpS.start (cl:=cl) (cr:=cr) hbr hwt hbl hp hW0;have cw:=hW p W0 ao c gl cl gr cr nv bv Ns hS0.br hS0.wt hS0.bl hp (by omega);obtain⟨p0,p1,p2,p3⟩:=zam hS0.x0;have HS0:=hdn hS0;have HW0:=hdn hW0;have HN:=hdn hN;have hx0:¬mx=0:=by omega
 have hx1:¬mx=-1:=by omega
 have hwx:IntKind.i64.wrap (mx-1)=mx-1:=by rw[IntKind.wrap_i64];omega
 clear hbr hwt hbl hN hcp hS0 hW0 hrp;have fin:∀(W1:World) (nv1:Value) (Ms:List NdX) (T:GT),WtX p W1 nv1 bv (Ns++Ms)->WtT w0 Ns Ms (unf (tOf ns n)) (cnt (tOf ns n)) T->KpW p W0 W1->CpS w0 p w W1 ns ao c gl cl gr cr nv1 bv (Ns++Ms)/\Calls Tryz.prog 72 #[.pointer (some ⟨p,0,none⟩),.agg #[.slice ao ns.length c,.slice (some ⟨gl,0,none⟩) ns.length cl,.slice (some ⟨gr,0,none⟩) ns.length cr,.string ⟨#[]⟩],.int .i64 n,.int .i64 0,.int .i64 (mx-1)] W1 fun e W2=>∃nv2 Ls U,e=.returned (.int .i64 (((Ns++Ms).length+Ls.length-1:Nat):Int))/\WtX p W2 nv2 bv (Ns++(Ms++Ls))/\KpW p w W2/\(Ns++(Ms++Ls)).length+2<=8589934592/\WtT w0 Ns (Ms++Ls++[⟨113,Ns.length+Ms.length-1,(Ns++Ms).length+Ls.length-1,.slice none 0 0⟩]) ((unf (tOf ns n)).seq (repG (unf (tOf ns n)) 0 (mx-1))) (cnt (tOf ns n)+cpc (cnt (tOf ns n)) 0 (mx-1)+1) (.q T U):=by
  intro W1 nv1 Ms T wt1 tt1 kp1;have s1:=HS0.out.step hp kp1 wt1;refine⟨s1,(hC p W1 ao c gl cl gr cr nv1 bv (Ns++Ms) s1.br s1.wt s1.bl hp (by have:=tt1.len;have:=HN.out;rw[zt1];omega)).mono ?_⟩;rintro e W2 ⟨nv2,Ls,U,rfl,wt2,tt2,kp2⟩;refine⟨nv2,Ls,U,rfl,by rw[<-ztD];exact wt2,s1.kp.trans kp2,?_,tt1.seq tt2⟩;have:=tt1.len;have:=tt2.len;have:=HN.out;rw[zt1,zt1];omega
 have HF:=hdn fin;clear fin
 go_enter Tryz.func72,Tryz.ntmps72
 go_upto_region 1 with fail
 rw[HW0.out];clear HW0
 go_wp2_with fail
 refine cw.mono ?_;rintro e W1 ⟨nv1,Ms,T,rfl,wt1,tt1,kp1⟩;obtain⟨s1,cc⟩:=HF.out W1 nv1 Ms T wt1 tt1 kp1;obtain⟨p0,p1,p2,p3⟩:=zam s1.x0;generalize hi1:Ns.length+Ms.length-1=i1 at *;clear wt1 tt1 kp1 s1 cw hi1
 go_wp2_with fail
 refine cc.mono ?_;rintro e W2 ⟨nv2,Ls,U,rfl,wt2,kp2,hl2,tt2⟩;have HK2:=hdn kp2;generalize hi2:(Ns++Ms).length+Ls.length-1=i2 at *;obtain⟨Q,hQ⟩:∃Q,Ms++Ls++[(⟨113,i1,i2,.slice none 0 0⟩:NdX)]=Q:=⟨_,rfl⟩;have hQl:Q.length=(Ms++Ls).length+1:=by rw[<-hQ,zb9]
 have hNl:(Ns++(Ms++Ls)).length=Ns.length+(Ms++Ls).length:=zt1;have ca:=zdS p 113 i1 i2 none 0 0 W2 nv2 bv (Ns++(Ms++Ls)) wt2 (by omega);rw[show Ns++(Ms++Ls)++[(⟨113,i1,i2,.slice none 0 0⟩:NdX)]=Ns++Q by rw[<-hQ,ztD]] at ca;rw[hQ] at tt2;have HT2:=hdn tt2;have HL2:=hdn hl2;have hlast:(Ns++(Ms++Ls)).length=Ns.length+Q.length-1:=by omega
 rw[hlast] at ca;have HQL:=hdn hQl;have HNL:=hdn hNl;have HLA:=hdn hlast;generalize hi3:Ns.length+Q.length-1=i3 at *;have HI3:=hdn hi3;clear cc tt2 kp2 wt2 hl2 hi2 hQ hQl hNl hlast hi3
 go_wp2_with fail
 refine ca.mono ?_;rintro e W3 ⟨rfl,⟨nv3,wt3⟩,kp3⟩;have ce:=zdS p 101 0 0 none 0 0 W3 nv3 bv (Ns++Q) wt3 (by rw[zt1];have:=HL2.out;have:=HQL.out;have:=HNL.out;omega);have HK3:=hdn (HK2.out.trans kp3);have HT5:=HT2.out.alt (WtT.void (w0:=w0) (Ns:=Ns++Q));rw[HI3.out,show (Ns++Q).length+[(⟨101,0,0,.slice none 0 0⟩:NdX)].length-1=(Ns++Q).length from rfl] at HT5;have hb6:(Ns++Q++[(⟨101,0,0,.slice none 0 0⟩:NdX)]).length<=8589934592:=by rw[zb9,zt1];have:=HL2.out;have:=HQL.out;have:=HNL.out;omega
 have h4:((Ns++Q++[(⟨101,0,0,.slice none 0 0⟩:NdX)]).length)=Ns.length+(Q++[(⟨101,0,0,.slice none 0 0⟩:NdX)]++[(⟨111,i3,(Ns++Q).length,.slice none 0 0⟩:NdX)]).length-1:=by rw[zb9,zb9,zb9,zt1];rfl
 have H4:=hdn h4;have HB6:=hdn hb6;have HT6:=hdn HT5;generalize hi4:(Ns++Q).length=i4 at *;clear ca wt3 kp3 HT5 h4 hb6 hi4
 go_wp2_with fail
 refine ce.mono ?_;rintro e W4 ⟨rfl,⟨nv4,wt4⟩,kp4⟩;have co:=zdS p 111 i3 i4 none 0 0 W4 nv4 bv (Ns++Q++[⟨101,0,0,.slice none 0 0⟩]) wt4 HB6.out;rw[H4.out] at co;have HK4:=hdn (HK3.out.trans kp4);generalize hi5:Ns.length+(Q++[(⟨101,0,0,.slice none 0 0⟩:NdX)]++[(⟨111,i3,i4,.slice none 0 0⟩:NdX)]).length-1=i5 at *;have HI5:=hdn hi5;clear ce wt4 kp4 hi5
 go_wp2_with fail
 refine co.mono ?_;rintro e W5 ⟨rfl,⟨nv5,wt5⟩,kp5⟩;clear co;go_wp2;refine zuN (v:=.int .i64 (i5:Int)) (by simp[results,Tryz.results72,go_sem]) rfl ⟨nv5,Q++[⟨101,0,0,.slice none 0 0⟩]++[⟨111,i3,i4,.slice none 0 0⟩],_,?_,?_,HT6.out,HK4.out.trans kp5⟩
 ·rw[HI5.out]
 ·rw[<-ztD,<-ztD];exact wt5
theorem zhO(w0:World)(ns:List zau)(n:Nat)(hW:WtC w0 ns n):∀(k:Nat) (mn mx:Int),0<=mn->mn<=1000->mx<=1000->(mx=-1/\mn=k\/mn<=mx/\mx=k)->CpC w0 ns n mn mx:=by
 intro k
 induction k with
 |zero=>
  intro mn mx h0 h1 h2 h3;rcases h3 with ⟨rfl,h⟩|⟨h,h'⟩
  ·obtain rfl:mn=0:=by omega
   exact zkO w0 ns n hW
  ·obtain rfl:mn=0:=by omega
   obtain rfl:mx=0:=by omega
   exact zkP w0 ns n
 |succ k ih=>
  intro mn mx h0 h1 h2 h3;rcases h3 with ⟨rfl,h⟩|⟨h,h'⟩
  ·exact zgv w0 ns n mn (-1) (-1) hW (by omega) (.inl ⟨rfl,rfl⟩) h1 h2 (ih (mn-1) (-1) (by omega) (by omega) (by omega) (.inl ⟨rfl,by omega⟩))
  ·by_cases hm:mn=0
   ·subst hm;exact zkL w0 ns n mx hW (by omega) h2 (ih 0 (mx-1) (by omega) (by omega) (by omega) (.inr ⟨by omega,by omega⟩))
   ·exact zgv w0 ns n mn mx (mx-1) hW (by omega) (.inr ⟨by omega,h,rfl⟩) h1 h2 (ih (mn-1) (mx-1) (by omega) (by omega) (by omega) (.inr ⟨by omega,by omega⟩))
end
section
variable {w W w0:World}{g nv bv k s mn mx:Value}{c p gl cl gr cr:Nat}{Ns:List NdX}{ns:List zau}{ao:Option Addr}
theorem zb0{g:Nat}{a b c d e:Value}{t:TypeId}(h:w.heap[g]?=some (.cells #[a,b,c,d,e] t (0,0))):w.cell? ⟨g,0,none⟩=some a/\w.cell? ⟨g,1,none⟩=some b/\w.cell? ⟨g,2,none⟩=some c/\w.cell? ⟨g,3,none⟩=some d/\w.cell? ⟨g,4,none⟩=some e:=by
 have:∀o,w.cell? ⟨g,o,none⟩=#[a,b,c,d,e][o]?:=fun _=>zuO _ _ _ _ _ _ h
 exact⟨this 0,this 1,this 2,this 3,this 4⟩
theorem KpW.drewN(w:World)(n:Nat):KpW p w (w.drewN n):=⟨rfl,rfl,rfl,zuz _,fun _ _=>rfl,fun _ _ _ h _ _=>h⟩
theorem WtX.drewN(h:WtX p W nv bv Ns)(n:Nat):WtX p (W.drewN n) nv bv Ns:=h.below ⟨rfl,rfl,rfl,zuz _,fun _ _=>rfl⟩
structure WrS(w0:World)(p:Nat)(w W:World)(ns:List zau)(ao:Option Addr)(c gl cl gr cr:Nat)(nv bv:Value)(Ns:List NdX)(k s mn mx g:Value):Prop where
 cs:CpS w0 p w W ns ao c gl cl gr cr nv bv Ns
 x1:W.heap[w.heap.size+1]?=some (.cells #[k,s,mn,mx,g] 144 (0,0))
theorem WrS.step{W':World}{nv':Value}{Ms:List NdX}(h:WrS w0 p w W ns ao c gl cl gr cr nv bv Ns k s mn mx g)(hp:w0.heap.size<=p)(kp:KpW p W W')(hw:WtX p W' nv' bv Ms):WrS w0 p w W' ns ao c gl cl gr cr nv' bv Ms k s mn mx g:=
 ⟨h.cs.step hp kp hw,kp.typ _ _ _ h.x1 (by decide) (by decide)⟩
theorem WrS.start(hbr:BrW w0 w ns (.slice ao ns.length c) gl gr)(hw:WtX p w nv bv Ns)(hbl:Below w0.heap.size w0 w)(hp:w0.heap.size<=p)
  (hW:(w.alloc (.cells #[.slice ao ns.length c,.slice (some ⟨gl,0,none⟩) ns.length cl,.slice (some ⟨gr,0,none⟩) ns.length cr,.string ⟨#[]⟩] 79)).alloc (.cells #[k,s,mn,mx,g] 144)=W):WrS w0 p w W ns ao c gl cl gr cr nv bv Ns k s mn mx g:=by
 subst hW;have h0:=CpS.start (cl:=cl) (cr:=cr) hbr hw hbl hp rfl;have hb:Below (w.alloc (.cells #[.slice ao ns.length c,.slice (some ⟨gl,0,none⟩) ns.length cl,.slice (some ⟨gr,0,none⟩) ns.length cr,.string ⟨#[]⟩] 79)).heap.size _ ((w.alloc (.cells #[.slice ao ns.length c,.slice (some ⟨gl,0,none⟩) ns.length cl,.slice (some ⟨gr,0,none⟩) ns.length cr,.string ⟨#[]⟩] 79)).alloc (.cells #[k,s,mn,mx,g] 144)):=(Below.refl _ _).alloc (zuz _) _;exact⟨h0.step hp (KpW.of_below (Nat.le_of_lt (zae h0.wt.box)) hb) (h0.wt.below hb),zmj _ _ _⟩
theorem WrS.kids(h:WrS w0 p w W ns ao c gl cl gr cr nv bv Ns k s mn mx g){n:Nat}(hn:n<ns.length):W.cell? ⟨gl,n,none⟩=some (.int .i64 (zch ns n))/\W.cell? ⟨gr,n,none⟩=some (.int .i64 (zcu ns n)):=by
 obtain⟨-,⟨cs,h2,h3⟩,cs',h4,h5⟩:=h.cs.br;constructor
 ·rw[show W.cell? ⟨gl,n,none⟩=cs[n]? from zuO _ _ _ _ _ _ h2];exact h3 n hn
 ·rw[show W.cell? ⟨gr,n,none⟩=cs'[n]? from zuO _ _ _ _ _ _ h4];exact h5 n hn
theorem zsT(w0:World)(ns:List zau)(n:Nat)(hn:n<ns.length)(hk:zaQ ns n=1)(hT:tOf ns n=.set (hasF (ns.getD n .zero).set)):WtC w0 ns n:=by
 intro p w ao c gl cl gr cr nv bv Ns hbr hwt hbl hp hN;rw[hT] at hN ⊢;obtain⟨ao2,cap2,hv,hml,hcl⟩:=hbr.nodes;cases hv;obtain⟨b,o,sv,nd,rfl,Hn,hbl',c0,c1,c2,c3,c4,hsv⟩:=hcl.elem hbl hn;have hk1:nd.kind=1:=by rw[<-hk];unfold zaQ;rw[Hn.out]
 rw[hk1] at c0;obtain⟨sao,scp,hsve,hsm,hsc⟩:=hsv;subst hsve;have hbw:b<w.heap.size:=zuB hbl' hbl.size;obtain⟨W0,hW0⟩:∃W0,(w.alloc (.cells #[.slice (some ⟨b,o,none⟩) ns.length c,.slice (some ⟨gl,0,none⟩) ns.length cl,.slice (some ⟨gr,0,none⟩) ns.length cr,.string ⟨#[]⟩] 79)).alloc (.cells #[.int .i64 1,.slice sao nd.set.length scp,.int .i64 nd.min,.int .i64 nd.max,.int .i64 nd.group] 144)=W0:=⟨_,rfl⟩;have hS0:=WrS.start (cl:=cl) (cr:=cr) hbr hwt hbl hp hW0;obtain⟨p0,p1,p2,p3⟩:=zam hS0.cs.x0;obtain⟨q0,q1,q2,q3,q4⟩:=zb0 hS0.x1;obtain⟨e0,e1⟩:=hS0.kids hn;have hi0:(0:Int)<=(n:Int):=by omega
 have hi1:(n:Int)<(ns.length:Int):=by omega
 have hmix:Tryz.prog.follows .mixedOrders=true:=by kernel_rfl
 rw[Hn.out] at hN ⊢;have hrs:zan 0 w0 (.slice sao nd.set.length scp) nd.set:=by
  obtain⟨b',o',sv',nd',e1',Hn',-,-,d1,-,-,-,hsv'⟩:=hcl.elem (Below.refl _ _) hn;cases e1';have d2:=(hbl.cell (p:=⟨b,o+n*5+1,none⟩) hbl').trans d1;rw[c1] at d2;cases d2;have:nd=nd':=by rw[<-Hn.out,<-Hn'.out]
  subst this;exact hsv'
 have hN1:Ns.length<=8589934592:=by omega
 have ca:=zdS p 115 0 0 sao nd.set.length scp W0 nv bv Ns hS0.cs.wt hN1;have HRS:=hdn hrs;clear hrs;have HS0:=hdn hS0;have HW0:=hdn hW0;have HN:=hdn hN;clear hbr hwt hbl hN hS0 hW0 hcl hsc hk hk1 hT
 go_enter Tryz.func35,Tryz.ntmps35
 go_upto_region 2 with fail
 rw[HW0.out];clear HW0 c0 c1 c2 c3 c4
 go_wp2_with fail
 refine ca.mono ?_;rintro e W2 ⟨rfl,⟨nv2,wt2⟩,kp2⟩;clear ca;go_wp2;refine zuN (v:=.int .i64 ((Ns.length:Nat):Int)) (by simp[results,Tryz.results35,go_sem]) rfl ⟨nv2,[⟨115,0,0,.slice sao nd.set.length scp⟩],_,?_,wt2,WtT.leaf HRS.out,(HS0.out.cs.kp.trans kp2)⟩;simp
theorem zsS(w0:World)(ns:List zau)(n x y:Nat)(hn:n<ns.length)(hk:zaQ ns n=2)(hT:tOf ns n=.seq (tOf ns x) (tOf ns y))(hL:zch ns n=x)(hR:zcu ns n=y)(hX:WtC w0 ns x)(hY:WtC w0 ns y):WtC w0 ns n:=by
 intro p w ao c gl cl gr cr nv bv Ns hbr hwt hbl hp hN;rw[hT] at hN ⊢;obtain⟨ao2,cap2,hv,hml,hcl⟩:=hbr.nodes;cases hv;obtain⟨b,o,sv,nd,rfl,Hn,hbl',c0,c1,c2,c3,c4,hsv⟩:=hcl.elem hbl hn;have hk1:nd.kind=2:=by rw[<-hk];unfold zaQ;rw[Hn.out]
 rw[hk1] at c0;obtain⟨sao,scp,hsve,hsm,hsc⟩:=hsv;subst hsve;have hbw:b<w.heap.size:=zuB hbl' hbl.size;obtain⟨W0,hW0⟩:∃W0,(w.alloc (.cells #[.slice (some ⟨b,o,none⟩) ns.length c,.slice (some ⟨gl,0,none⟩) ns.length cl,.slice (some ⟨gr,0,none⟩) ns.length cr,.string ⟨#[]⟩] 79)).alloc (.cells #[.int .i64 2,.slice sao nd.set.length scp,.int .i64 nd.min,.int .i64 nd.max,.int .i64 nd.group] 144)=W0:=⟨_,rfl⟩;have hS0:=WrS.start (cl:=cl) (cr:=cr) hbr hwt hbl hp hW0;obtain⟨p0,p1,p2,p3⟩:=zam hS0.cs.x0;obtain⟨q0,q1,q2,q3,q4⟩:=zb0 hS0.x1;obtain⟨e0,e1⟩:=hS0.kids hn;have hi0:(0:Int)<=(n:Int):=by omega
 have hi1:(n:Int)<(ns.length:Int):=by omega
 have hmix:Tryz.prog.follows .mixedOrders=true:=by kernel_rfl
 rw[hL] at e0;rw[hR] at e1;have hcn:cnt (Pt.seq (tOf ns x) (tOf ns y))=cnt (tOf ns x)+cnt (tOf ns y)+1:=rfl;rw[hcn] at hN ⊢;have hun:unf (Pt.seq (tOf ns x) (tOf ns y))=(unf (tOf ns x)).seq (unf (tOf ns y)):=rfl;rw[hun];have HR:=hdn hR;clear hcn hun hL hR;have HS0:=hdn hS0;have HW0:=hdn hW0;have HN:=hdn hN;clear hbr hwt hbl hN hS0 hW0 hcl hsc hk hk1 hT
 go_enter Tryz.func35,Tryz.ntmps35
 go_upto_region 2 with fail
 rw[HW0.out];clear HW0 c0 c1 c2 c3 c4
 go_upto_region 7 with fail
 refine zbO 7 (fun w'=>∃n,w'=W0.drewN n) hmix ⟨1,rfl⟩ (by decide) (by kernel_rfl) ?_;intro os hos;simp only[zus,zuu] at hos;subst hos
 repeat (go_big_quiet_step (fail))
 refine wpQuiet_nil ?_;rintro w' ⟨nq,rfl⟩ r hr;simp only[ztI,ztJ] at hr;subst hr
 go_wp2_with fail
 refine(hX p _ (some ⟨b,o,none⟩) c gl cl gr cr nv bv Ns (HS0.out.cs.br.keep (KpW.drewN (p:=p) _ _)) (HS0.out.cs.wt.drewN _) ((KpW.drewN (p:=p) _ _).base HS0.out.cs.bl hp) hp (by have:=HN.out;omega)).mono ?_;rintro e W1 ⟨nv1,Ms,T,rfl,wt1,tt1,kp1⟩;have hS1:=HS0.out.step hp ((KpW.drewN _ nq).trans kp1) wt1;obtain⟨p0,p1,p2,p3⟩:=zam hS1.cs.x0;obtain⟨q0,q1,q2,q3,q4⟩:=zb0 hS1.x1;have e0:=(hS1.cs.br.right);obtain⟨cs,f1,f2⟩:=hS1.cs.br.right;have e1:W1.cell? ⟨gr,n,none⟩=some (.int .i64 y):=by rw[show W1.cell? ⟨gr,n,none⟩=cs[n]? from zuO _ _ _ _ _ _ f1,f2 n hn,HR.out]
 have HS1:=hdn hS1;have HT1:=hdn tt1;generalize hi1:Ns.length+Ms.length-1=i1 at *;have HI1:=hdn hi1;clear wt1 tt1 kp1 hS1 hi1 f1 f2 e0
 go_upto_region 8 with fail
 refine zbO 7 (fun w'=>∃n,w'=W1.drewN n) hmix ⟨1,rfl⟩ (by decide) (by kernel_rfl) ?_;intro os hos;simp only[zus,zuu] at hos;subst hos
 repeat (go_big_quiet_step (fail))
 refine wpQuiet_nil ?_;rintro w' ⟨nq,rfl⟩ r hr;simp only[ztI,ztJ] at hr;subst hr
 go_wp2_with fail
 refine(hY p _ (some ⟨b,o,none⟩) c gl cl gr cr nv1 bv (Ns++Ms) (HS1.out.cs.br.keep (KpW.drewN (p:=p) _ _)) (HS1.out.cs.wt.drewN _) ((KpW.drewN (p:=p) _ _).base HS1.out.cs.bl hp) hp (by have:=HT1.out.len;have:=HN.out;rw[zt1];omega)).mono ?_;rintro e W2 ⟨nv2,Ls,U,rfl,wt2,tt2,kp2⟩;have hS2:=HS1.out.step hp ((KpW.drewN _ nq).trans kp2) wt2;obtain⟨q0,q1,q2,q3,q4⟩:=zb0 hS2.x1;have tt3:=HT1.out.seq tt2;rw[HI1.out] at tt3;have hl2:(Ns++Ms++Ls).length<=8589934592:=by have:=HT1.out.len;have:=tt2.len;have:=HN.out;rw[zt1,zt1];omega
 have hlen:(Ns++Ms++Ls).length=Ns.length+(Ms++Ls++[(⟨113,i1,(Ns++Ms).length+Ls.length-1,.slice none 0 0⟩:NdX)]).length-1:=by rw[zb9,ztD,zt1];rfl
 generalize hi2:(Ns++Ms).length+Ls.length-1=i2 at *;have ca:=zdS p 113 i1 i2 none 0 0 W2 nv2 bv (Ns++Ms++Ls) wt2 hl2;rw[hlen] at ca;generalize hi3:Ns.length+(Ms++Ls++[(⟨113,i1,i2,.slice none 0 0⟩:NdX)]).length-1=i3 at *;have HI3:=hdn hi3;have HS2:=hdn hS2;have HT3:=hdn tt3;clear wt2 tt2 kp2 hS2 hi2 hi3 tt3 hl2 hlen
 go_wp2_with fail
 refine ca.mono ?_;rintro e W3 ⟨rfl,⟨nv3,wt3⟩,kp3⟩;clear ca;go_wp2;refine zuN (v:=.int .i64 (i3:Int)) (by simp[results,Tryz.results35,go_sem]) rfl ⟨nv3,Ms++Ls++[⟨113,i1,i2,.slice none 0 0⟩],_,?_,?_,HT3.out,(HS2.out.cs.kp.trans kp3)⟩
 ·rw[HI3.out]
 ·rw[<-ztD,<-ztD];exact wt3
theorem zsP(w0:World)(ns:List zau)(n x y:Nat)(hn:n<ns.length)(hk:zaQ ns n=3)(hT:tOf ns n=.alt (tOf ns x) (tOf ns y))(hL:zch ns n=x)(hR:zcu ns n=y)(hX:WtC w0 ns x)(hY:WtC w0 ns y):WtC w0 ns n:=by
 intro p w ao c gl cl gr cr nv bv Ns hbr hwt hbl hp hN;rw[hT] at hN ⊢;obtain⟨ao2,cap2,hv,hml,hcl⟩:=hbr.nodes;cases hv;obtain⟨b,o,sv,nd,rfl,Hn,hbl',c0,c1,c2,c3,c4,hsv⟩:=hcl.elem hbl hn;have hk1:nd.kind=3:=by rw[<-hk];unfold zaQ;rw[Hn.out]
 rw[hk1] at c0;obtain⟨sao,scp,hsve,hsm,hsc⟩:=hsv;subst hsve;have hbw:b<w.heap.size:=zuB hbl' hbl.size;obtain⟨W0,hW0⟩:∃W0,(w.alloc (.cells #[.slice (some ⟨b,o,none⟩) ns.length c,.slice (some ⟨gl,0,none⟩) ns.length cl,.slice (some ⟨gr,0,none⟩) ns.length cr,.string ⟨#[]⟩] 79)).alloc (.cells #[.int .i64 3,.slice sao nd.set.length scp,.int .i64 nd.min,.int .i64 nd.max,.int .i64 nd.group] 144)=W0:=⟨_,rfl⟩;have hS0:=WrS.start (cl:=cl) (cr:=cr) hbr hwt hbl hp hW0;obtain⟨p0,p1,p2,p3⟩:=zam hS0.cs.x0;obtain⟨q0,q1,q2,q3,q4⟩:=zb0 hS0.x1;obtain⟨e0,e1⟩:=hS0.kids hn;have hi0:(0:Int)<=(n:Int):=by omega
 have hi1:(n:Int)<(ns.length:Int):=by omega
 have hmix:Tryz.prog.follows .mixedOrders=true:=by kernel_rfl
 rw[hL] at e0;rw[hR] at e1;have hcn:cnt (Pt.alt (tOf ns x) (tOf ns y))=cnt (tOf ns x)+cnt (tOf ns y)+1:=rfl;rw[hcn] at hN ⊢;have hun:unf (Pt.alt (tOf ns x) (tOf ns y))=(unf (tOf ns x)).alt (unf (tOf ns y)):=rfl;rw[hun];have HR:=hdn hR;clear hcn hun hL hR;have HS0:=hdn hS0;have HW0:=hdn hW0;have HN:=hdn hN;clear hbr hwt hbl hN hS0 hW0 hcl hsc hk hk1 hT
 go_enter Tryz.func35,Tryz.ntmps35
 go_upto_region 2 with fail
 rw[HW0.out];clear HW0 c0 c1 c2 c3 c4
 go_upto_region 7 with fail
 refine zbO 7 (fun w'=>∃n,w'=W0.drewN n) hmix ⟨1,rfl⟩ (by decide) (by kernel_rfl) ?_;intro os hos;simp only[zus,zuu] at hos;subst hos
 repeat (go_big_quiet_step (fail))
 refine wpQuiet_nil ?_;rintro w' ⟨nq,rfl⟩ r hr;simp only[ztI,ztJ] at hr;subst hr
 go_wp2_with fail
 refine(hX p _ (some ⟨b,o,none⟩) c gl cl gr cr nv bv Ns (HS0.out.cs.br.keep (KpW.drewN (p:=p) _ _)) (HS0.out.cs.wt.drewN _) ((KpW.drewN (p:=p) _ _).base HS0.out.cs.bl hp) hp (by have:=HN.out;omega)).mono ?_;rintro e W1 ⟨nv1,Ms,T,rfl,wt1,tt1,kp1⟩;have hS1:=HS0.out.step hp ((KpW.drewN _ nq).trans kp1) wt1;obtain⟨p0,p1,p2,p3⟩:=zam hS1.cs.x0;obtain⟨q0,q1,q2,q3,q4⟩:=zb0 hS1.x1;have e0:=(hS1.cs.br.right);obtain⟨cs,f1,f2⟩:=hS1.cs.br.right;have e1:W1.cell? ⟨gr,n,none⟩=some (.int .i64 y):=by rw[show W1.cell? ⟨gr,n,none⟩=cs[n]? from zuO _ _ _ _ _ _ f1,f2 n hn,HR.out]
 have HS1:=hdn hS1;have HT1:=hdn tt1;generalize hi1:Ns.length+Ms.length-1=i1 at *;have HI1:=hdn hi1;clear wt1 tt1 kp1 hS1 hi1 f1 f2 e0
 go_upto_region 8 with fail
 refine zbO 7 (fun w'=>∃n,w'=W1.drewN n) hmix ⟨1,rfl⟩ (by decide) (by kernel_rfl) ?_;intro os hos;simp only[zus,zuu] at hos;subst hos
 repeat (go_big_quiet_step (fail))
 refine wpQuiet_nil ?_;rintro w' ⟨nq,rfl⟩ r hr;simp only[ztI,ztJ] at hr;subst hr
 go_wp2_with fail
 refine(hY p _ (some ⟨b,o,none⟩) c gl cl gr cr nv1 bv (Ns++Ms) (HS1.out.cs.br.keep (KpW.drewN (p:=p) _ _)) (HS1.out.cs.wt.drewN _) ((KpW.drewN (p:=p) _ _).base HS1.out.cs.bl hp) hp (by have:=HT1.out.len;have:=HN.out;rw[zt1];omega)).mono ?_;rintro e W2 ⟨nv2,Ls,U,rfl,wt2,tt2,kp2⟩;have hS2:=HS1.out.step hp ((KpW.drewN _ nq).trans kp2) wt2;obtain⟨q0,q1,q2,q3,q4⟩:=zb0 hS2.x1;have tt3:=HT1.out.alt tt2;rw[HI1.out] at tt3;have hl2:(Ns++Ms++Ls).length<=8589934592:=by have:=HT1.out.len;have:=tt2.len;have:=HN.out;rw[zt1,zt1];omega
 have hlen:(Ns++Ms++Ls).length=Ns.length+(Ms++Ls++[(⟨111,i1,(Ns++Ms).length+Ls.length-1,.slice none 0 0⟩:NdX)]).length-1:=by rw[zb9,ztD,zt1];rfl
 generalize hi2:(Ns++Ms).length+Ls.length-1=i2 at *;have ca:=zdS p 111 i1 i2 none 0 0 W2 nv2 bv (Ns++Ms++Ls) wt2 hl2;rw[hlen] at ca;generalize hi3:Ns.length+(Ms++Ls++[(⟨111,i1,i2,.slice none 0 0⟩:NdX)]).length-1=i3 at *;have HI3:=hdn hi3;have HS2:=hdn hS2;have HT3:=hdn tt3;clear wt2 tt2 kp2 hS2 hi2 hi3 tt3 hl2 hlen
 go_wp2_with fail
 refine ca.mono ?_;rintro e W3 ⟨rfl,⟨nv3,wt3⟩,kp3⟩;clear ca;go_wp2;refine zuN (v:=.int .i64 (i3:Int)) (by simp[results,Tryz.results35,go_sem]) rfl ⟨nv3,Ms++Ls++[⟨111,i1,i2,.slice none 0 0⟩],_,?_,?_,HT3.out,(HS2.out.cs.kp.trans kp3)⟩
 ·rw[HI3.out]
 ·rw[<-ztD,<-ztD];exact wt3
theorem zsQ(w0:World)(ns:List zau)(n x:Nat)(hn:n<ns.length)(hk:zaQ ns n=5)(hT:tOf ns n=.grp (tOf ns x) (ns.getD n .zero).group)(hL:zch ns n=x)(hX:WtC w0 ns x):WtC w0 ns n:=by
 intro p w ao c gl cl gr cr nv bv Ns hbr hwt hbl hp hN;rw[hT] at hN ⊢;obtain⟨ao2,cap2,hv,hml,hcl⟩:=hbr.nodes;cases hv;obtain⟨b,o,sv,nd,rfl,Hn,hbl',c0,c1,c2,c3,c4,hsv⟩:=hcl.elem hbl hn;have hk1:nd.kind=5:=by rw[<-hk];unfold zaQ;rw[Hn.out]
 rw[hk1] at c0;obtain⟨sao,scp,hsve,hsm,hsc⟩:=hsv;subst hsve;have hbw:b<w.heap.size:=zuB hbl' hbl.size;obtain⟨W0,hW0⟩:∃W0,(w.alloc (.cells #[.slice (some ⟨b,o,none⟩) ns.length c,.slice (some ⟨gl,0,none⟩) ns.length cl,.slice (some ⟨gr,0,none⟩) ns.length cr,.string ⟨#[]⟩] 79)).alloc (.cells #[.int .i64 5,.slice sao nd.set.length scp,.int .i64 nd.min,.int .i64 nd.max,.int .i64 nd.group] 144)=W0:=⟨_,rfl⟩;have hS0:=WrS.start (cl:=cl) (cr:=cr) hbr hwt hbl hp hW0;obtain⟨p0,p1,p2,p3⟩:=zam hS0.cs.x0;obtain⟨q0,q1,q2,q3,q4⟩:=zb0 hS0.x1;obtain⟨e0,e1⟩:=hS0.kids hn;have hi0:(0:Int)<=(n:Int):=by omega
 have hi1:(n:Int)<(ns.length:Int):=by omega
 have hmix:Tryz.prog.follows .mixedOrders=true:=by kernel_rfl
 rw[hL] at e0;have hcn:cnt (Pt.grp (tOf ns x) (ns.getD n .zero).group)=cnt (tOf ns x):=rfl;rw[hcn] at hN ⊢;have hun:unf (Pt.grp (tOf ns x) (ns.getD n .zero).group)=unf (tOf ns x):=rfl;rw[hun];clear hcn hun hL;have HS0:=hdn hS0;have HW0:=hdn hW0;have HN:=hdn hN;clear hbr hwt hbl hN hS0 hW0 hcl hsc hk hk1 hT
 go_enter Tryz.func35,Tryz.ntmps35
 go_upto_region 2 with fail
 rw[HW0.out];clear HW0 c0 c1 c2 c3 c4
 go_upto_region 14 with fail
 refine zbO 7 (fun w'=>∃n,w'=W0.drewN n) hmix ⟨1,rfl⟩ (by decide) (by kernel_rfl) ?_;intro os hos;simp only[zus,zuu] at hos;subst hos
 repeat (go_big_quiet_step (fail))
 refine wpQuiet_nil ?_;rintro w' ⟨nq,rfl⟩ r hr;simp only[ztI,ztJ] at hr;subst hr
 go_wp2_with fail
 refine(hX p _ (some ⟨b,o,none⟩) c gl cl gr cr nv bv Ns (HS0.out.cs.br.keep (KpW.drewN (p:=p) _ _)) (HS0.out.cs.wt.drewN _) ((KpW.drewN (p:=p) _ _).base HS0.out.cs.bl hp) hp HN.out).mono ?_;rintro e W1 ⟨nv1,Ms,T,rfl,wt1,tt1,kp1⟩;generalize hi1:Ns.length+Ms.length-1=i1 at *;have HI1:=hdn hi1;clear hi1;go_wp2;exact zuN (v:=.int .i64 (i1:Int)) (by simp[results,Tryz.results35,go_sem]) rfl ⟨nv1,Ms,T,by rw[HI1.out],wt1,tt1,(HS0.out.cs.kp.trans (KpW.drewN _ nq)).trans kp1⟩
theorem zsR(w0:World)(ns:List zau)(n x:Nat)(hn:n<ns.length)(hk:zaQ ns n=4)(hT:tOf ns n=.rep (tOf ns x) (ns.getD n .zero).min (ns.getD n .zero).max)(hL:zch ns n=x)(hX:CpC w0 ns x (ns.getD n .zero).min (ns.getD n .zero).max):WtC w0 ns n:=by
 intro p w ao c gl cl gr cr nv bv Ns hbr hwt hbl hp hN;rw[hT] at hN ⊢;obtain⟨ao2,cap2,hv,hml,hcl⟩:=hbr.nodes;cases hv;obtain⟨b,o,sv,nd,rfl,Hn,hbl',c0,c1,c2,c3,c4,hsv⟩:=hcl.elem hbl hn;have hk1:nd.kind=4:=by rw[<-hk];unfold zaQ;rw[Hn.out]
 rw[hk1] at c0;obtain⟨sao,scp,hsve,hsm,hsc⟩:=hsv;subst hsve;have hbw:b<w.heap.size:=zuB hbl' hbl.size;obtain⟨W0,hW0⟩:∃W0,(w.alloc (.cells #[.slice (some ⟨b,o,none⟩) ns.length c,.slice (some ⟨gl,0,none⟩) ns.length cl,.slice (some ⟨gr,0,none⟩) ns.length cr,.string ⟨#[]⟩] 79)).alloc (.cells #[.int .i64 4,.slice sao nd.set.length scp,.int .i64 nd.min,.int .i64 nd.max,.int .i64 nd.group] 144)=W0:=⟨_,rfl⟩;have hS0:=WrS.start (cl:=cl) (cr:=cr) hbr hwt hbl hp hW0;obtain⟨p0,p1,p2,p3⟩:=zam hS0.cs.x0;obtain⟨q0,q1,q2,q3,q4⟩:=zb0 hS0.x1;obtain⟨e0,e1⟩:=hS0.kids hn;have hi0:(0:Int)<=(n:Int):=by omega
 have hi1:(n:Int)<(ns.length:Int):=by omega
 have hmix:Tryz.prog.follows .mixedOrders=true:=by kernel_rfl
 rw[hL] at e0;have hcn:cnt (Pt.rep (tOf ns x) (ns.getD n .zero).min (ns.getD n .zero).max)=cpc (cnt (tOf ns x)) (ns.getD n .zero).min (ns.getD n .zero).max:=rfl;rw[hcn] at hN ⊢;have hun:unf (Pt.rep (tOf ns x) (ns.getD n .zero).min (ns.getD n .zero).max)=repG (unf (tOf ns x)) (ns.getD n .zero).min (ns.getD n .zero).max:=rfl;rw[hun];rw[Hn.out] at hX hN ⊢;clear hcn hun hL;have HS0:=hdn hS0;have HW0:=hdn hW0;have HN:=hdn hN;clear hbr hwt hbl hN hS0 hW0 hcl hsc hk hk1 hT
 go_enter Tryz.func35,Tryz.ntmps35
 go_upto_region 2 with fail
 rw[HW0.out];clear HW0 c0 c1 c2 c3 c4
 go_upto_region 13 with fail
 refine zbO 11 (fun w'=>∃n,w'=W0.drewN n) hmix ⟨1,rfl⟩ (by decide) (by kernel_rfl) ?_;intro os hos;simp only[zus,zuu] at hos;subst hos
 repeat (go_big_quiet_step (fail))
 refine wpQuiet_nil ?_;rintro w' ⟨nq,rfl⟩ r hr;simp only[ztI,ztJ] at hr;subst hr
 go_wp2_with fail
 refine(hX p _ (some ⟨b,o,none⟩) c gl cl gr cr nv bv Ns (HS0.out.cs.br.keep (KpW.drewN (p:=p) _ _)) (HS0.out.cs.wt.drewN _) ((KpW.drewN (p:=p) _ _).base HS0.out.cs.bl hp) hp HN.out).mono ?_;rintro e W1 ⟨nv1,Ms,T,rfl,wt1,tt1,kp1⟩;generalize hi1:Ns.length+Ms.length-1=i1 at *;have HI1:=hdn hi1;clear hi1;go_wp2;exact zuN (v:=.int .i64 (i1:Int)) (by simp[results,Tryz.results35,go_sem]) rfl ⟨nv1,Ms,T,by rw[HI1.out],wt1,tt1,(HS0.out.cs.kp.trans (KpW.drewN _ nq)).trans kp1⟩
theorem zp7(w0:World)(ns:List zau)(ha:∀i,i<ns.length->zaI (zaQ ns i)<=(stk ns i).length)(hb:ns.all zaK=true):∀n,n<ns.length->WtC w0 ns n:=by
 intro n
 induction n using Nat.strongRecOn with
 |ind n ih=>
  intro hn;have hnode:zaK (ns.getD n .zero)=true:=ztC.1 hb (ns.getD n .zero) (by
   rw[ztO,ztT hn];exact zt0 _)
  have har:=ha n hn;have hkd:zaQ ns n=(ns.getD n .zero).kind:=rfl
  by_cases h1:zaQ ns n=1
  ·refine zsT w0 ns n hn h1 ?_;unfold tOf zbH;rw[zuV (by rw[<-hkd];exact h1)]
  by_cases h2:zaQ ns n=2
  ·obtain⟨x,y,hL,hR,hx,hy,hT⟩:=zkk (ns:=ns) (k:=n) (by rw[h2];rfl) (by rw[h2] at har;exact har);refine zsS w0 ns n x y hn h2 ?_ hL hR (ih x hx (by omega)) (ih y hy (by omega));rw[hT];unfold zbH;rw[zuU (by rw[<-hkd];exact h1),zuV (by rw[<-hkd];exact h2)]
   rfl
  by_cases h3:zaQ ns n=3
  ·obtain⟨x,y,hL,hR,hx,hy,hT⟩:=zkk (ns:=ns) (k:=n) (by rw[h3];rfl) (by rw[h3] at har;exact har);refine zsP w0 ns n x y hn h3 ?_ hL hR (ih x hx (by omega)) (ih y hy (by omega));rw[hT];unfold zbH;rw[zuU (by rw[<-hkd];exact h1),zuU (by rw[<-hkd];exact h2),zuV (by rw[<-hkd];exact h3)]
   rfl
  by_cases h4:zaQ ns n=4
  ·obtain⟨x,hL,hx,hT⟩:=zkj (ns:=ns) (k:=n) (by rw[h4];rfl) (by rw[h4] at har;exact har);have hbd:zaY (ns.getD n .zero).min (ns.getD n .zero).max=true:=by
    unfold zaK at hnode;rw[zuU (by rw[<-hkd];exact h1),zuU (by rw[<-hkd];exact fun h=>h.elim h2 h3),zuV (by rw[<-hkd];exact h4)] at hnode;simp only[ztt] at hnode;exact hnode.1.2
   generalize hmn:(ns.getD n .zero).min=mn at *;generalize hmx:(ns.getD n .zero).max=mx at *;simp[zaY] at hbd;refine zsR w0 ns n x hn h4 ?_ hL ?_
   ·rw[hT,hmn,hmx];unfold zbH;rw[zuU (by rw[<-hkd];exact h1),zuU (by rw[<-hkd];exact h2),zuU (by rw[<-hkd];exact h3),zuV (by rw[<-hkd];exact h4),hmn,hmx]
    rfl
   ·rw[hmn,hmx]
    by_cases hm:mx=-1
    ·exact zhO w0 ns x (ih x hx (by omega)) mn.toNat mn mx (by omega) (by omega) (by omega) (.inl ⟨hm,by omega⟩)
    ·exact zhO w0 ns x (ih x hx (by omega)) mx.toNat mn mx (by omega) (by omega) (by omega) (.inr ⟨by omega,by omega⟩)
  have h5:zaQ ns n=5:=by
   by_cases h5:zaQ ns n=5
   ·exact h5
   ·exfalso
    unfold zaK at hnode;rw[zuU (by rw[<-hkd];exact h1),zuU (by rw[<-hkd];exact fun h=>h.elim h2 h3),zuU (by rw[<-hkd];exact h4),zuU (by rw[<-hkd];exact h5)] at hnode;cases hnode
  obtain⟨x,hL,hx,hT⟩:=zkj (ns:=ns) (k:=n) (by rw[h5];rfl) (by rw[h5] at har;exact har);refine zsQ w0 ns n x hn h5 ?_ hL (ih x hx (by omega));rw[hT];unfold zbH;rw[zuU (by rw[<-hkd];exact h1),zuU (by rw[<-hkd];exact h2),zuU (by rw[<-hkd];exact h3),zuU (by rw[<-hkd];exact h4)]
  rfl
end
variable {B gl cl gr cr g k:Nat}{w0 wr:World}{ns:List zau}
structure WInv(B:Nat)(w0 wr:World)(ns:List zau)(gl cl gr cr g k:Nat):Prop where
 below:Below B w0 wr
 left:wr.ownsRow B 3 1 (.slice (some ⟨gl,0,none⟩) ns.length cl) ns.length (rowL ns ns.length)
 right:wr.ownsRow B 3 1 (.slice (some ⟨gr,0,none⟩) ns.length cr) ns.length (rowR ns ns.length)
 wrow:∃xs,wr.ownsRow B 3 1 (.slice (some ⟨g,0,none⟩) ns.length ns.length) ns.length xs/\∀j,j<k->xs[j]?=some (.int .i64 (wOf ns j))
 lne:gl≠g
 rne:gr≠g
 base:B<=wr.heap.size
theorem WInv.same{w1:World}(h:WInv B w0 wr ns gl cl gr cr g k)(hb:Below wr.heap.size wr w1):WInv B w0 w1 ns gl cl gr cr g k:=
 ⟨zaa h.below h.base hb,zad h.left hb,zad h.right hb,by obtain⟨xs,h1,h2⟩:=h.wrow;exact⟨xs,zad h1 hb,h2⟩,h.lne,h.rne,zuA h.base hb.size⟩
theorem WInv.alloc(h:WInv B w0 wr ns gl cl gr cr g k)(o:Obj):WInv B w0 (wr.alloc o) ns gl cl gr cr g k:=h.same ((Below.refl _ _).alloc (zuz _) _)
theorem WInv.drew(h:WInv B w0 wr ns gl cl gr cr g k):WInv B w0 wr.drew ns gl cl gr cr g k:=h.same (Below.refl _ _).drew
theorem WInv.store(h:WInv B w0 wr ns gl cl gr cr g k)(u:Value):WInv B w0 (wr.setCell ⟨g,k,none⟩ u) ns gl cl gr cr g k:=by
 obtain⟨xs,h1,h2⟩:=h.wrow;obtain⟨s1,s2⟩:=h1.stored k u;refine⟨h.below.setCell (zaV h1).1 _,zeI h.left s2 h.lne,zeI h.right s2 h.rne,⟨_,s1,fun j hj=>?_⟩,h.lne,h.rne,by simpa [World.setCell] using h.base⟩;rw[List.getElem?_set_ne (by omega)];exact h2 j hj
theorem WInv.put(h:WInv B w0 wr ns gl cl gr cr g k)(hk:k<ns.length){u:Int}(hu:u=wOf ns k):WInv B w0 (wr.setCell ⟨g,k,none⟩ (.int .i64 u)) ns gl cl gr cr g (k+1):=by
 subst hu;obtain⟨xs,h1,h2⟩:=h.wrow;obtain⟨s1,s2⟩:=h1.stored k (.int .i64 (wOf ns k));refine⟨h.below.setCell (zaV h1).1 _,zeI h.left s2 h.lne,zeI h.right s2 h.rne,⟨_,s1,fun j hj=>?_⟩,h.lne,h.rne,by simpa [World.setCell] using h.base⟩
 by_cases e:j=k
 ·subst e;rw[List.getElem?_set_self (by have:=h1.1;omega)]
 ·rw[List.getElem?_set_ne (by omega)];exact h2 j (by omega)
theorem WInv.cellW(h:WInv B w0 wr ns gl cl gr cr g k){j:Nat}(hj:j<k)(hn:j<ns.length):wr.cell? ⟨g,j,none⟩=some (.int .i64 (wOf ns j)):=by
 obtain⟨xs,h1,h2⟩:=h.wrow;rw[h1.cellAt j (by omega)];exact h2 j hj
theorem WInv.cellK(h:WInv B w0 wr ns gl cl gr cr g k)(hn:k<ns.length):(∃u,wr.cell? ⟨g,k,none⟩=some u)/\wr.frozen? ⟨g,k,none⟩=false:=by
 obtain⟨xs,h1,h2⟩:=h.wrow;exact⟨zbN h1 (by omega),h1.frozenAt k⟩
theorem WInv.cellL(h:WInv B w0 wr ns gl cl gr cr g k)(hn:k<ns.length):wr.cell? ⟨gl,k,none⟩=some (.int .i64 (zch ns k)):=by
 rw[h.left.cellAt k (by omega)];simp[rowL,hn]
theorem WInv.cellR(h:WInv B w0 wr ns gl cl gr cr g k)(hn:k<ns.length):wr.cell? ⟨gr,k,none⟩=some (.int .i64 (zcu ns k)):=by
 rw[h.right.cellAt k (by omega)];simp[rowR,hn]
theorem WInv.lt(h:WInv B w0 wr ns gl cl gr cr g k):gl<wr.heap.size/\gr<wr.heap.size/\g<wr.heap.size:=by
 obtain⟨xs,h1,h2⟩:=h.wrow;exact⟨zcj h.left,zcj h.right,zcj h1⟩
theorem zmc(ha:zaI (zaQ ns k)=2)(hl:2<=(stk ns k).length):∃x y:Nat,zch ns k=x/\zcu ns k=y/\x<k/\y<k/\(wstk ns k).drop ((wstk ns k).length-2)=[wOf ns x,wOf ns y]:=by
 have hm:∀j,j<(stk ns k).length->(stk ns k).getD j 0<k:=fun j hj=>zkd ns k _ (by
  rw[ztO,ztT hj];exact zt0 _)
 refine⟨(stk ns k).getD ((stk ns k).length-2) 0,(stk ns k).getD ((stk ns k).length-1) 0,?_,?_,hm _ (by omega),hm _ (by omega),?_⟩
 ·rw[zch,ha,zuU (by omega)]
 ·rw[zcu,zuV ha]
 ·have hw:=zfh ns k;have e1:=zgn ns k ((stk ns k).length-2) (by omega);have e2:=zgn ns k ((stk ns k).length-1) (by omega);rw[<-e1,<-e2];apply ztL;intro i;rw[ztS]
  match i with
  |0=>rw[hw,Nat.add_zero,ztT (by omega)];simp[List.getD_eq_getElem?_getD,List.getElem?_eq_getElem (show (stk ns k).length-2<(wstk ns k).length by omega)]
  |1=>rw[hw,show (stk ns k).length-2+1=(stk ns k).length-1 by omega,ztT (by omega)];simp[List.getD_eq_getElem?_getD,List.getElem?_eq_getElem (show (stk ns k).length-1<(wstk ns k).length by omega)]
  |i+2=>rw[ztU (by omega)];simp
theorem zma(ha:zaI (zaQ ns k)=1)(hl:1<=(stk ns k).length):∃x:Nat,zch ns k=x/\x<k/\((wstk ns k).drop ((wstk ns k).length-1)).getD 0 0=wOf ns x:=by
 have hm:∀j,j<(stk ns k).length->(stk ns k).getD j 0<k:=fun j hj=>zkd ns k _ (by
  rw[ztO,ztT hj];exact zt0 _)
 refine⟨(stk ns k).getD ((stk ns k).length-1) 0,?_,hm _ (by omega),?_⟩
 ·rw[zch,ha,zuU (by omega)]
 ·rw[zge,zfh];exact zgn ns k ((stk ns k).length-1) (by omega)
end Go.Proofs.YthddplbodacjgaaGreatDoor
