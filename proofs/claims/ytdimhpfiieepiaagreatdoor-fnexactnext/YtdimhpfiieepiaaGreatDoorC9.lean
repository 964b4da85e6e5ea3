import Derived.Test.YtdimhpfiieepiaaGreatDoorC8
import Derived.Deep.RegionHeld3
import Derived.Deep.DrawnRows
namespace Go.Proofs.YtdimhpfiieepiaaGreatDoor
open Option renaming some->za,none->zb
open Go.RowKit
def fO(ns:List aM):Nat->List Int
 |0=>[]
 |i+1=>xY (fO ns i) (ns.getD i .zero)
def eA(ns:List aM)(i:Nat):Int:=kL (ns.getD i .zero) ((fO ns i).drop ((fO ns i).length-bi (bJ ns i)))
theorem PM(ns:List aM):∀i,(aN ns i).map (eA ns)=fO ns i
 |0=>rfl
 |i+1=>by
  have ih:=PM ns i;have hl:(aN ns i).length=(fO ns i).length:=by rw[<-ih,tU]
  rw[aN,fO,xY,Dl,List.map_take,ih,hl]
  rfl
theorem L0(ns:List aM)(i:Nat):(fO ns i).length=(aN ns i).length:=by rw[<-PM,tU]
theorem Pz(ns:List aM)(i j:Nat)(h:j<(aN ns i).length):(fO ns i).getD j 0=eA ns ((aN ns i).getD j 0):=by
 rw[<-PM];simp[List.getD_eq_getElem?_getD,h]
theorem Vx:∀(ns:List aM) (st kE:List Int),mH ns st=za kE->nB ns st.length=za kE.length/\ns.all aX=true
 |[],st,kE,h=>by cases h;exact⟨rfl,rfl⟩
 |n::ns,st,kE,h=>by
  unfold mH at h
  by_cases hc:st.length<bi n.kind\/aX n=false
  ·rw[aD hc]at h;cases h
  ·rw[aq hc]at h;have hl:(xY st n).length=st.length-bi n.kind+1:=by simp[xY]
   obtain⟨h1,h2⟩:=Vx ns (xY st n) kE h;refine⟨?_,?_⟩
   ·unfold nB;rw[aq (λq=>hc (.inl q)),<-hl];exact h1
   ·have:aX n=true:=by
     cases hb:aX n
     ·exact absurd (.inr hb) hc
     ·rfl
    simp only[List.all_cons,h2,this,Bool.and_true]
theorem zh0(ns:List aM)(ha:∀i,i<ns.length->bi (bJ ns i)<=(aN ns i).length)(hb:ns.all aX=true):∀k,k<=ns.length->mH ns []=mH (ns.drop k) (fO ns k)
 |0,_=>rfl
 |k+1,hk=>by
  rw[zh0 ns ha hb k (by omega),zhZ ns k (by omega) (fO ns k) _ rfl,aq]
  ·rfl
  ·have h1:=ha k (by omega);rintro (h|h)
   ·rw[L0]at h;unfold bJ at h1;omega
   ·have:aX (ns.getD k .zero)=true:=by
     have:=jl.1 hb (ns.getD k .zero) (by
      rw[cL,eY (show k<ns.length by omega)];exact oz _)
     exact this
    rw[h]at this;cases this
theorem Wi(ns:List aM)(hk:jW ns=true)(ha:∀i,i<ns.length->bi (bJ ns i)<=(aN ns i).length)(hb:ns.all aX=true):0<ns.length/\tR ns=za (eA ns (ns.length-1)):=by
 have h1:=zh0 ns ha hb ns.length (ai _);rw[sA (ai _),mH]at h1;have h2:=(Vx ns [] _ h1).1;have h3:(fO ns ns.length).length=1:=by
  unfold jW at hk;have:=eq_of_beq hk;simp only[oA]at h2;rw[h2]at this;exact Option.some.inj this
 have gX:0<ns.length:=by
  rcases Fz ns.length with h0|h0
  ·rw[h0]at h3;simp[fO]at h3
  ·exact h0
 refine⟨gX,?_⟩;obtain⟨m,hm⟩:∃m,ns.length=m+1:=⟨ns.length-1,by omega⟩;rw[hm]at h1 h3 ⊢;unfold tR;rw[h1];have h4:=PM ns (m+1);have h5:aN ns (m+1)=[m]:=by
  have hl:=L0 ns (m+1);rw[h3]at hl;rw[aN]at hl ⊢
  match (aN ns m).take ((aN ns m).length-bi (bJ ns m)),hl with
  |[],_=>rfl
  |_::_,hl=>simp at hl
 rw[h5]at h4;rw[<-h4]
 rfl
theorem zrg(ns:List aM)(h:jW ns=false\/ns.all aX=false):tR ns=zb:=by
 unfold tR;cases hq:mH ns [] with
 |none=>rfl
 |some st=>
  obtain⟨h1,h2⟩:=Vx ns [] st hq;rcases h with h|h
  ·unfold jW at h;simp only[oA]at h1;rw[h1]at h
   match st with
   |[]=>rfl
   |[a]=>simp at h
   |_::_::_=>rfl
  ·rw[h2]at h;cases h
theorem Bh(ns:List aM)(ha:∀i,i<ns.length->bi (bJ ns i)<=(aN ns i).length)(hb:ns.all aX=true):∀n i,i<n->i<ns.length->1<=eA ns i/\eA ns i<=2001
 |0,_,h,_=>absurd h (dk _)
 |n+1,i,_,hi=>by
  have jP:aX (ns.getD i .zero)=true:=jl.1 hb (ns.getD i .zero) (by
   rw[cL,eY hi];exact oz _)
  have eB:=ha i hi;have GH:∀j,j<(aN ns i).length->1<=(fO ns i).getD j 0/\(fO ns i).getD j 0<=2001:=by
   intro j hj;rw[Pz ns i j hj];have yV:(aN ns i).getD j 0∈aN ns i:=by
    rw[cL,eY hj];exact oz _
   have hlt:=Mm ns i _ yV;exact Bh ns ha hb n _ (by omega) (by omega)
  unfold eA;generalize gG:ns.getD i .zero=nd at *;obtain⟨k,rs,mn,mx,g⟩:=nd;have cA:bJ ns i=k:=by unfold bJ;rw[gG]
  rw[cA]at eB ⊢;have zvB:=Pn (fO ns i) ((fO ns i).length-bi k);have hl:=L0 ns i;rcases VU jP with rfl|rfl|rfl|rfl|rfl
  ·simp[kL]
  ·have e:=Io (fO ns i) ((fO ns i).length-bi 2);have a2:bi 2=2:=rfl;unfold kL;rw[aq (by simp),aD (by simp),e.1,e.2];have p:=GH ((fO ns i).length-bi 2) (by omega);have q:=GH ((fO ns i).length-bi 2+1) (by omega);exact Bb (by omega)
  ·have e:=Io (fO ns i) ((fO ns i).length-bi 3);have a2:bi 3=2:=rfl;unfold kL;rw[aq (by simp),aD (by simp),e.1,e.2];have p:=GH ((fO ns i).length-bi 3) (by omega);have q:=GH ((fO ns i).length-bi 3+1) (by omega);exact Bb (by omega)
  ·have a2:bi 4=1:=rfl;unfold kL;rw[aq (by simp),aq (by simp),aD (by simp),zvB];have p:=GH ((fO ns i).length-bi 4) (by omega);have c:=E2 (VT jP).2.1;have hm:1*1<=(fO ns i).getD ((fO ns i).length-bi 4) 0*dV mn mx:=Int.mul_le_mul p.1 c.1 (by omega) (by omega);exact Bb (by simpa using hm)
  ·have a2:bi 5=1:=rfl;unfold kL;rw[aq (by simp),aq (by simp),aq (by simp),zvB];exact GH ((fO ns i).length-bi 5) (by omega)
variable {B gl cl gr cr g k:Nat}{w0 wr:World}{ns:List aM}
attribute [local go_sem ↓] wp_at_zero wp_at_succ
structure ii(B:Nat)(w0 wr:World)(ns:List aM)(gl cl gr cr g k:Nat):Prop where
 below:Below B w0 wr
 left:wr.ownsRow B 3 1 (.slice (za ⟨gl,0,zb⟩) ns.length cl) ns.length (rV ns ns.length)
 right:wr.ownsRow B 3 1 (.slice (za ⟨gr,0,zb⟩) ns.length cr) ns.length (rW ns ns.length)
 HJ:∃xs,wr.ownsRow B 3 1 (.slice (za ⟨g,0,zb⟩) ns.length ns.length) ns.length xs/\∀j,j<k->xs[j]?=za (.int .i64 (eA ns j))
 Lb:gl≠g
 Lm:gr≠g
 base:B<=wr.heap.size
theorem ii.same{w1:World}(h:ii B w0 wr ns gl cl gr cr g k)(hb:Below wr.heap.size wr w1):ii B w0 w1 ns gl cl gr cr g k:=
 ⟨aj h.below h.base hb,cI h.left hb,cI h.right hb,by obtain⟨xs,h1,h2⟩:=h.HJ;exact⟨xs,cI h1 hb,h2⟩,h.Lb,h.Lm,aU h.base hb.size⟩
theorem ii.alloc(h:ii B w0 wr ns gl cl gr cr g k)(o:Obj):ii B w0 (wr.alloc o) ns gl cl gr cr g k:=h.same (au)
theorem ii.drew(h:ii B w0 wr ns gl cl gr cr g k):ii B w0 wr.drew ns gl cl gr cr g k:=h.same (Below.refl _ _).drew
theorem ii.store(h:ii B w0 wr ns gl cl gr cr g k)(u:Value):ii B w0 (wr.setCell ⟨g,k,zb⟩ u) ns gl cl gr cr g k:=by
 obtain⟨xs,h1,h2⟩:=h.HJ;obtain⟨s1,s2⟩:=h1.stored k u;refine⟨h.below.setCell (qc h1).1 _,qP h.left s2 h.Lb,qP h.right s2 h.Lm,⟨_,s1,λj hj=>?_⟩,h.Lb,h.Lm,by simpa [World.setCell]using h.base⟩;rw[List.getElem?_set_ne (by omega)];exact h2 j hj
theorem ii.put(h:ii B w0 wr ns gl cl gr cr g k)(hk:k<ns.length){u:Int}(hu:u=eA ns k):ii B w0 (wr.setCell ⟨g,k,zb⟩ (.int .i64 u)) ns gl cl gr cr g (k+1):=by
 subst hu;obtain⟨xs,h1,h2⟩:=h.HJ;obtain⟨s1,s2⟩:=h1.stored k (.int .i64 (eA ns k));refine⟨h.below.setCell (qc h1).1 _,qP h.left s2 h.Lb,qP h.right s2 h.Lm,⟨_,s1,λj hj=>?_⟩,h.Lb,h.Lm,by simpa [World.setCell]using h.base⟩
 by_cases e:j=k
 ·subst e;rw[List.getElem?_set_self (by have:=h1.1;omega)]
 ·rw[List.getElem?_set_ne (by omega)];exact h2 j (by omega)
theorem ii.ul(h:ii B w0 wr ns gl cl gr cr g k){j:Nat}(hj:j<k)(hn:j<ns.length):wr.cell? ⟨g,j,zb⟩=za (.int .i64 (eA ns j)):=by
 obtain⟨xs,h1,h2⟩:=h.HJ;rw[h1.cellAt j (by omega)];exact h2 j hj
theorem ii.Zg(h:ii B w0 wr ns gl cl gr cr g k)(hn:k<ns.length):(∃u,wr.cell? ⟨g,k,zb⟩=za u)/\wr.frozen? ⟨g,k,zb⟩=false:=by
 obtain⟨xs,h1,h2⟩:=h.HJ;exact⟨se h1 (by omega),h1.frozenAt k⟩
theorem ii.Jz(h:ii B w0 wr ns gl cl gr cr g k)(hn:k<ns.length):wr.cell? ⟨gl,k,zb⟩=za (.int .i64 (lh ns k)):=by
 rw[h.left.cellAt k (by omega)];simp[rV,hn]
theorem ii.Rw(h:ii B w0 wr ns gl cl gr cr g k)(hn:k<ns.length):wr.cell? ⟨gr,k,zb⟩=za (.int .i64 (oh ns k)):=by
 rw[h.right.cellAt k (by omega)];simp[rW,hn]
theorem ii.lt(h:ii B w0 wr ns gl cl gr cr g k):gl<wr.heap.size/\gr<wr.heap.size/\g<wr.heap.size:=by
 obtain⟨xs,h1,h2⟩:=h.HJ;exact⟨qd h.left,qd h.right,qd h1⟩
theorem zmf(ha:bi (bJ ns k)=2)(hl:2<=(aN ns k).length):∃x y:Nat,lh ns k=x/\oh ns k=y/\x<k/\y<k/\(fO ns k).drop ((fO ns k).length-2)=[eA ns x,eA ns y]:=by
 have hm:∀j,j<(aN ns k).length->(aN ns k).getD j 0<k:=λj hj=>Mm ns k _ (by
  rw[cL,eY hj];exact oz _)
 refine⟨(aN ns k).getD ((aN ns k).length-2) 0,(aN ns k).getD ((aN ns k).length-1) 0,?_,?_,hm _ (by omega),hm _ (by omega),?_⟩
 ·rw[lh,ha,aq (by omega)]
 ·rw[oh,aD ha]
 ·have hw:=L0 ns k;have e1:=Pz ns k ((aN ns k).length-2) (by omega);have e2:=Pz ns k ((aN ns k).length-1) (by omega);rw[<-e1,<-e2];apply FC;intro i;rw[P1]
  match i with
  |0=>rw[hw,wH,eY (by omega)];simp[List.getD_eq_getElem?_getD,List.getElem?_eq_getElem (show (aN ns k).length-2<(fO ns k).length by omega)]
  |1=>rw[hw,show (aN ns k).length-2+1=(aN ns k).length-1 by omega,eY (by omega)];simp[List.getD_eq_getElem?_getD,List.getElem?_eq_getElem (show (aN ns k).length-1<(fO ns k).length by omega)]
  |i+2=>rw[qh (by omega)];simp
theorem zme(ha:bi (bJ ns k)=1)(hl:1<=(aN ns k).length):∃x:Nat,lh ns k=x/\x<k/\((fO ns k).drop ((fO ns k).length-1)).getD 0 0=eA ns x:=by
 have hm:∀j,j<(aN ns k).length->(aN ns k).getD j 0<k:=λj hj=>Mm ns k _ (by
  rw[cL,eY hj];exact oz _)
 refine⟨(aN ns k).getD ((aN ns k).length-1) 0,?_,hm _ (by omega),?_⟩
 ·rw[lh,ha,aq (by omega)]
 ·rw[Pn,L0];exact Pz ns k ((aN ns k).length-1) (by omega)
end Go.Proofs.YtdimhpfiieepiaaGreatDoor
