import Derived.Test.YtfajjdgkiilhfaaGreatDoorC13
import Derived.Deep.QuietTactic
import Derived.Deep.DrawnRows
import Derived.Deep.RegionHeld3
namespace Go.Proofs.YtfajjdgkiilhfaaGreatDoor
open Proofs.Tryz
open Option renaming some->za,none->zb
open Go renaming World->zc,Value->zg,Calls->zh,TypeId->zi
open Value renaming int->zd,slice->zf
open Obj renaming cells->ze
set_option maxHeartbeats 4000000
set_option maxRecDepth 100000
open Go.RowKit
def gf(ns:List aC):Nat->List Int
 |0=>[]
 |i+1=>FA (gf ns i) (ns.getD i .zero)
def fp(ns:List aC)(i:Nat):Int:=ql (ns.getD i .zero) ((gf ns i).drop ((gf ns i).length-aP (dT ns i)))
theorem Ue(ns:List aC):∀i,(aN ns i).map (fp ns)=gf ns i
 |0=>rfl
 |i+1=>by
  have ih:=Ue ns i;have hl:(aN ns i).length=(gf ns i).length:=by rw[<-ih,lX]
  rw[aN,gf,FA,sY,List.map_take,ih,hl]
  rfl
theorem OT(ns:List aC)(i:Nat):(gf ns i).length=(aN ns i).length:=by rw[<-Ue,lX]
theorem T7(ns:List aC)(i j:Nat)(h:j<(aN ns i).length):(gf ns i).getD j 0=fp ns ((aN ns i).getD j 0):=by
 rw[<-Ue];simp[List.getD_eq_getElem?_getD,h]
theorem zi5:∀(ns:List aC) (st Ok:List Int),Di ns st=za Ok->gF ns st.length=za Ok.length/\ns.all bk=true
 |[],st,Ok,h=>by cases h;exact⟨rfl,rfl⟩
 |n::ns,st,Ok,h=>by
  unfold Di at h
  by_cases hc:st.length<aP n.kind\/bk n=false
  ·rw[af hc]at h;cases h
  ·rw[ab hc]at h;have hl:(FA st n).length=st.length-aP n.kind+1:=by simp[FA]
   obtain⟨h1,h2⟩:=zi5 ns (FA st n) Ok h;refine⟨?_,?_⟩
   ·unfold gF;rw[ab (λq=>hc (.inl q)),<-hl];exact h1
   ·have:bk n=true:=by
     cases hb:bk n
     ·exact absurd (.inr hb) hc
     ·rfl
    simp only[List.all_cons,h2,this,Bool.and_true]
theorem zi6(ns:List aC)(ha:∀i,i<ns.length->aP (dT ns i)<=(aN ns i).length)(hb:ns.all bk=true):∀k,k<=ns.length->Di ns []=Di (ns.drop k) (gf ns k)
 |0,_=>rfl
 |k+1,hk=>by
  rw[zi6 ns ha hb k (by omega),zo7 ns k (by omega) (gf ns k) _ rfl,ab]
  ·rfl
  ·have h1:=ha k (by omega);rintro (h|h)
   ·rw[OT]at h;unfold dT at h1;omega
   ·have:bk (ns.getD k .zero)=true:=by
     have:=jR.1 hb (ns.getD k .zero) (by
      rw[bJ,bE (show k<ns.length by omega)];exact gA _)
     exact this
    rw[h]at this;cases this
theorem znU(ns:List aC)(hk:kL ns=true)(ha:∀i,i<ns.length->aP (dT ns i)<=(aN ns i).length)(hb:ns.all bk=true):0<ns.length/\zuv ns=za (fp ns (ns.length-1)):=by
 have h1:=zi6 ns ha hb ns.length (aq _);rw[Bn (aq _),Di]at h1;have h2:=(zi5 ns [] _ h1).1;have h3:(gf ns ns.length).length=1:=by
  unfold kL at hk;have:=eq_of_beq hk;simp only[qU]at h2;rw[h2]at this;exact Option.some.inj this
 have oJ:0<ns.length:=by
  rcases Nat.eq_zero_or_pos ns.length with h0|h0
  ·rw[h0]at h3;simp[gf]at h3
  ·exact h0
 refine⟨oJ,?_⟩;obtain⟨m,hm⟩:∃m,ns.length=m+1:=⟨ns.length-1,by omega⟩;rw[hm]at h1 h3 ⊢;unfold zuv;rw[h1];have h4:=Ue ns (m+1);have h5:aN ns (m+1)=[m]:=by
  have hl:=OT ns (m+1);rw[h3]at hl;rw[aN]at hl ⊢
  match (aN ns m).take ((aN ns m).length-aP (dT ns m)),hl with
  |[],_=>rfl
  |_::_,hl=>simp at hl
 rw[h5]at h4;rw[<-h4]
 rfl
theorem De(ns:List aC)(ha:∀i,i<ns.length->aP (dT ns i)<=(aN ns i).length)(hb:ns.all bk=true):∀n i,i<n->i<ns.length->1<=fp ns i/\fp ns i<=2001
 |0,_,h,_=>absurd h (fw _)
 |n+1,i,_,hi=>by
  have AU:bk (ns.getD i .zero)=true:=jR.1 hb (ns.getD i .zero) (by
   rw[bJ,bE hi];exact gA _)
  have pN:=ha i hi;have tL:∀j,j<(aN ns i).length->1<=(gf ns i).getD j 0/\(gf ns i).getD j 0<=2001:=by
   intro j hj;rw[T7 ns i j hj];have Nx:(aN ns i).getD j 0∈aN ns i:=by
    rw[bJ,bE hj];exact gA _
   have hlt:=Pb ns i _ Nx;exact De ns ha hb n _ (by omega) (by omega)
  unfold fp;generalize Cr:ns.getD i .zero=nd at *;obtain⟨k,rs,mn,mx,g⟩:=nd;have kX:dT ns i=k:=by unfold dT;rw[Cr]
  rw[kX]at pN ⊢;have zyK:=znD (gf ns i) ((gf ns i).length-aP k);have hl:=OT ns i;rcases zlA AU with rfl|rfl|rfl|rfl|rfl
  ·simp[ql]
  ·have e:=znE (gf ns i) ((gf ns i).length-aP 2);have a2:aP 2=2:=rfl;unfold ql;rw[ab (by simp),af (by simp),e.1,e.2];have p:=tL ((gf ns i).length-aP 2) (by omega);have q:=tL ((gf ns i).length-aP 2+1) (by omega);exact zmu (by omega)
  ·have e:=znE (gf ns i) ((gf ns i).length-aP 3);have a2:aP 3=2:=rfl;unfold ql;rw[ab (by simp),af (by simp),e.1,e.2];have p:=tL ((gf ns i).length-aP 3) (by omega);have q:=tL ((gf ns i).length-aP 3+1) (by omega);exact zmu (by omega)
  ·have a2:aP 4=1:=rfl;unfold ql;rw[ab (by simp),ab (by simp),af (by simp),zyK];have p:=tL ((gf ns i).length-aP 4) (by omega);have c:=zkL (zlz AU).2.1;have hm:1*1<=(gf ns i).getD ((gf ns i).length-aP 4) 0*oO mn mx:=wU p.1 c.1 (by omega) (by omega);exact zmu (by simpa using hm)
  ·have a2:aP 5=1:=rfl;unfold ql;rw[ab (by simp),ab (by simp),ab (by simp),zyK];exact tL ((gf ns i).length-aP 5) (by omega)
section
variable {ns:List aC}{k:Nat}
def tI(rs:List (Int×Int))(c:Nat):Bool:=rs.any λr=>decide (r.1<=c/\(c:Int)<=r.2)
def LA:Pt:=.set λ_=>false
def lD(n:aC)(ops:List Pt):Pt:=
 if n.kind=1 then .set (tI n.set)
 else if n.kind=2 then .seq (ops.getD 0 LA) (ops.getD 1 LA)
 else if n.kind=3 then .eH (ops.getD 0 LA) (ops.getD 1 LA)
 else if n.kind=4 then .jI (ops.getD 0 LA) n.min n.max
 else .dX (ops.getD 0 LA) n.group
def Po(st:List Pt)(n:aC):List Pt:=st.take (st.length-aP n.kind)++[lD n (st.drop (st.length-aP n.kind))]
def jt(ns:List aC):Nat->List Pt
 |0=>[]
 |i+1=>Po (jt ns i) (ns.getD i .zero)
def bV(ns:List aC)(i:Nat):Pt:=lD (ns.getD i .zero) ((jt ns i).drop ((jt ns i).length-aP (dT ns i)))
theorem TR(ns:List aC):∀i,(aN ns i).map (bV ns)=jt ns i
 |0=>rfl
 |i+1=>by
  have ih:=TR ns i;have hl:(aN ns i).length=(jt ns i).length:=by rw[<-ih,lX]
  rw[aN,jt,Po,sY,List.map_take,ih,hl]
  rfl
theorem zkq(ns:List aC)(i:Nat):(jt ns i).length=(aN ns i).length:=by rw[<-TR,lX]
theorem ZV(ns:List aC)(k j:Nat)(hj:j<(aN ns k).length):(aN ns k).getD j 0<k:=Pb ns k _ (by
 rw[bJ,bE hj];exact gA _)
theorem zmb(ha:aP (dT ns k)=2)(hl:2<=(aN ns k).length):∃x y:Nat,pw ns k=x/\ve ns k=y/\x<k/\y<k/\bV ns k=lD (ns.getD k .zero) [bV ns x,bV ns y]:=by
 refine⟨(aN ns k).getD ((aN ns k).length-2) 0,(aN ns k).getD ((aN ns k).length-1) 0,?_,?_,ZV _ _ _ (by omega),ZV _ _ _ (by omega),?_⟩
 ·rw[pw,ha,ab (by omega)]
 ·rw[ve,af ha]
 ·have hw:=zkq ns k;unfold bV;rw[ha]
  congr 1
  rw[<-TR ns k,lX];apply List.ext_getElem?;intro i;rw[Dq,wV]
  match i with
  |0=>simp[List.getD_eq_getElem?_getD,List.getElem?_eq_getElem (show (aN ns k).length-2<(aN ns k).length by omega),bV]
  |1=>rw[show (aN ns k).length-2+1=(aN ns k).length-1 by omega];simp[List.getD_eq_getElem?_getD,List.getElem?_eq_getElem (show (aN ns k).length-1<(aN ns k).length by omega),bV]
  |i+2=>rw[Bo (by omega)];simp
theorem zma(ha:aP (dT ns k)=1)(hl:1<=(aN ns k).length):∃x:Nat,pw ns k=x/\x<k/\bV ns k=lD (ns.getD k .zero) [bV ns x]:=by
 refine⟨(aN ns k).getD ((aN ns k).length-1) 0,?_,ZV _ _ _ (by omega),?_⟩
 ·rw[pw,ha,ab (by omega)]
 ·unfold bV;rw[ha]
  congr 1
  rw[<-TR ns k,lX];apply List.ext_getElem?;intro i;rw[Dq,wV]
  match i with
  |0=>simp[List.getD_eq_getElem?_getD,List.getElem?_eq_getElem (show (aN ns k).length-1<(aN ns k).length by omega),bV]
  |i+1=>rw[Bo (by omega)];simp
end
def gE:Pt->Int
 |.set _=>1
 |.seq l r=>oy (gE l+gE r)
 |.eH l r=>oy (gE l+gE r)
 |.jI b mn mx=>oy (gE b*oO mn mx)
 |.dX b _=>gE b

section
variable {a b:List Nat}{i n:Nat}{u:Nat -> Bool}
inductive GT where
 |s (p:Nat) (f:Nat->Bool)
 |q (a b:GT)
 |o (a b:GT)
 |st (a:GT)
 |e
def GT.ga:GT->GA
 |.s _ f=>.one f
 |.q a b=>a.ga.seq b.ga
 |.o a b=>a.ga.eH b.ga
 |.st a=>a.ga.star
 |.e=>.xB true
def GT.cK:GT->List Nat
 |.s p _=>[p]
 |.q a b=>a.cK++b.cK
 |.o a b=>a.cK++b.cK
 |.st a=>a.cK
 |.e=>[]
theorem GT.len:∀T:GT,T.cK.length=T.ga.n
 |.s _ _=>rfl
 |.q a b=>by show (a.cK++b.cK).length=a.ga.n+b.ga.n;rw[aQ,a.len,b.len]
 |.o a b=>by show (a.cK++b.cK).length=a.ga.n+b.ga.n;rw[aQ,a.len,b.len]
 |.st a=>a.len
 |.e=>rfl
def GT.at(T:GT)(i:Nat):Nat:=T.cK.getD i 0
theorem zqF(h:i<a.length):(a++b).getD i 0=a.getD i 0:=by simp[List.getD,List.getElem?_append_left h]
theorem zqE(hn:a.length=n)(h:n<=i):(a++b).getD i 0=b.getD (i-n) 0:=by
 subst hn;simp[List.getD,List.getElem?_append_right h]
def ig(m:Nat->Bool):GT->Bool
 |.s p _=>m p
 |.q a b=>ig m b || (ig m a&&b.ga.fC)
 |.o a b=>ig m a || ig m b
 |.st a=>ig m a
 |.e=>false
def dF(m:Nat->Bool)(c:Nat):GT->Bool->Nat->Bool
 |.s p f,g,x=>(x==p)&&(g&&f c)
 |.q a b,g,x=>dF m c a g x || dF m c b ((g&&a.ga.fC) || ig m a) x
 |.o a b,g,x=>dF m c a g x || dF m c b g x
 |.st a,g,x=>dF m c a (g || ig m a) x
 |.e,_,_=>false
theorem zoh{a b:GT}{P:Nat->Prop}{v:Nat->Bool}(hu:∀i,u i=true->i<a.ga.n):(∃i,(u i || (decide (a.ga.n<=i)&&v (i-a.ga.n)))=true/\P ((a.cK++b.cK).getD i 0))↔(∃i,u i=true/\P (a.at i))\/∃i,v i=true/\P (b.at i):=by
 simp only[nt,fI,lZ];constructor
 ·rintro ⟨i,h|⟨h0,h⟩,k⟩
  ·rw[zqF (by rw[a.len];exact hu i h)]at k;exact .inl ⟨i,h,k⟩
  ·rw[zqE a.len h0]at k;exact .inr ⟨_,h,k⟩
 ·rintro (⟨i,h,k⟩|⟨i,h,k⟩)
  ·exact⟨i,.inl h,by rw[zqF (by rw[a.len];exact hu i h)];exact k⟩
  ·exact⟨a.ga.n+i,.inr ⟨by omega,by rw[lV];exact h⟩,by rw[zqE a.len (by omega),lV];exact k⟩
theorem A7(m:Nat->Bool):∀T:GT,ig m T=true↔∃i,T.ga.kF i=true/\m (T.at i)=true
 |.s p f=>by
  show m p=true↔∃i,(i==0)=true/\m ([p].getD i 0)=true;exact⟨λh=>⟨0,rfl,h⟩,λ⟨i,h,k⟩=>by obtain rfl:i=0:=(by simpa using h);exact k⟩
 |.q a b=>by
  show (ig m b || (ig m a&&b.ga.fC))=true↔∃i,((decide (a.ga.n<=i)&&b.ga.kF (i-a.ga.n)) || (b.ga.fC&&a.ga.kF i))=true/\m ((a.cK++b.cK).getD i 0)=true;have:=zoh (a:=a) (b:=b) (P:=λx=>m x=true) (u:=λi=>b.ga.fC&&a.ga.kF i) (v:=b.ga.kF) (λi h=>a.ga.tT i (by simp only[fI]at h;exact h.2));simp only[Bool.or_comm (decide _&&_) _];rw[this,nt,fI,A7 m a,A7 m b];constructor
  ·rintro (h|⟨⟨i,h,k⟩,e⟩)
   ·exact .inr h
   ·exact .inl ⟨i,by rw[e,h];rfl,k⟩
  ·rintro (⟨i,h,k⟩|h)
   ·rw[fI]at h;exact .inr ⟨⟨i,h.2,k⟩,h.1⟩
   ·exact .inl h
 |.o a b=>by
  show (ig m a || ig m b)=true↔∃i,(a.ga.kF i || (decide (a.ga.n<=i)&&b.ga.kF (i-a.ga.n)))=true/\m ((a.cK++b.cK).getD i 0)=true;rw[zoh (a:=a) (b:=b) (P:=λx=>m x=true) (u:=a.ga.kF) (v:=b.ga.kF) a.ga.tT,nt,A7 m a,A7 m b]
 |.st a=>A7 m a
 |.e=>by
  show false=true↔∃i,false=true/\_;simp
def ShP(m:Nat->Bool)(c:Nat)(T:GT)(g:Bool)(x:Nat):Prop:=∃j,T.ga.st j c=true/\x=T.at j/\((g=true/\T.ga.fst j=true)\/∃i,m (T.at i)=true/\T.ga.ii i j=true)
theorem wQ{a b:GT}(h:i<a.ga.n):(a.cK++b.cK).getD i 0=a.at i:=zqF (by rw[a.len];exact h)
theorem Af{a b:GT}(i:Nat):(a.cK++b.cK).getD (a.ga.n+i) 0=b.at i:=by rw[zqE a.len (by omega),lV];rfl
theorem Fq(hu:∀i,u i=true->i<n):u (n+i)=false:=by
 cases h:u (n+i)
 ·rfl
 ·have:=hu _ h;omega
theorem Ip(n j:Nat):j<n\/∃k,j=n+k:=by
 rcases iX j n with h|h
 ·exact .inl h
 ·exact .inr ⟨j-n,by omega⟩
theorem IB(m:Nat->Bool)(c:Nat):∀(T:GT) (g:Bool) (x:Nat),dF m c T g x=true↔ShP m c T g x
 |.s p f,g,x=>by
  show ((x==p)&&(g&&f c))=true↔∃j,((j==0)&&f c)=true/\x=[p].getD j 0/\((g=true/\(j==0)=true)\/∃i,m ([p].getD i 0)=true/\false=true);simp only[fI,beq_iff_eq,Bool.false_eq_true,and_false,exists_false,or_false];constructor
  ·rintro ⟨rfl,hg,hc⟩;exact⟨0,⟨rfl,hc⟩,rfl,hg,rfl⟩
  ·rintro ⟨j,⟨rfl,hc⟩,hx,hg,-⟩;exact⟨hx,hg,hc⟩
 |.q a b,g,x=>by
  show (dF m c a g x || dF m c b ((g&&a.ga.fC) || ig m a) x)=true↔_;rw[nt,IB m c a,IB m c b];constructor
  ·rintro (⟨j,h1,h2,h3⟩|⟨j,h1,h2,h3⟩)
   ·have hj:=a.ga.qI j c h1;refine⟨j,?_,?_,?_⟩
    ·show (a.ga.st j c || _)=true;rw[h1,Ah]
    ·show x=(a.cK++b.cK).getD j 0;rw[wQ hj];exact h2
    ·rcases h3 with ⟨e1,e2⟩|⟨i,e1,e2⟩
     ·left;refine⟨e1,?_⟩;show (a.ga.fst j || _)=true;rw[e2,Ah]
     ·right;refine⟨i,?_,?_⟩
      ·show m ((a.cK++b.cK).getD i 0)=true;rw[wQ (a.ga.tC i j e2).1];exact e1
      ·show (a.ga.ii i j || _ || _)=true;rw[e2,Ah,Ah]
   ·have hj:=b.ga.qI j c h1;refine⟨a.ga.n+j,?_,?_,?_⟩
    ·show (a.ga.st (a.ga.n+j) c || (decide (a.ga.n<=a.ga.n+j)&&b.ga.st (a.ga.n+j-a.ga.n) c))=true;rw[lV,h1];simp
    ·show x=(a.cK++b.cK).getD (a.ga.n+j) 0;rw[Af];exact h2
    ·rcases h3 with ⟨e1,e2⟩|⟨i,e1,e2⟩
     ·rw[nt,fI,A7]at e1;rcases e1 with ⟨e1,e3⟩|⟨i,e1,e3⟩
      ·left;refine⟨e1,?_⟩
       show (a.ga.fst (a.ga.n+j) || (a.ga.fC&&(decide (a.ga.n<=a.ga.n+j)&&b.ga.fst (a.ga.n+j-a.ga.n))))=true;rw[lV,e2,e3];simp
      ·right;refine⟨i,?_,?_⟩
       ·show m ((a.cK++b.cK).getD i 0)=true;rw[wQ (a.ga.tT i e1)];exact e3
       ·show (a.ga.ii i (a.ga.n+j) || (decide (a.ga.n<=i)&&(decide (a.ga.n<=a.ga.n+j)&&b.ga.ii (i-a.ga.n) (a.ga.n+j-a.ga.n))) || (a.ga.kF i&&(decide (a.ga.n<=a.ga.n+j)&&b.ga.fst (a.ga.n+j-a.ga.n))))=true;rw[e1,lV,e2];simp
     ·right;refine⟨a.ga.n+i,?_,?_⟩
      ·show m ((a.cK++b.cK).getD (a.ga.n+i) 0)=true;rw[Af];exact e1
      ·show (a.ga.ii (a.ga.n+i) (a.ga.n+j) || (decide (a.ga.n<=a.ga.n+i)&&(decide (a.ga.n<=a.ga.n+j)&&b.ga.ii (a.ga.n+i-a.ga.n) (a.ga.n+j-a.ga.n))) || _)=true;rw[lV,lV,e2];simp
  ·rintro ⟨j,h1,h2,h3⟩;replace h1:(a.ga.st j c || (decide (a.ga.n<=j)&&b.ga.st (j-a.ga.n) c))=true:=h1;replace h2:x=(a.cK++b.cK).getD j 0:=h2;replace h3:(g=true/\(a.ga.fst j || (a.ga.fC&&(decide (a.ga.n<=j)&&b.ga.fst (j-a.ga.n))))=true)\/∃i,m ((a.cK++b.cK).getD i 0)=true/\(a.ga.ii i j || (decide (a.ga.n<=i)&&(decide (a.ga.n<=j)&&b.ga.ii (i-a.ga.n) (j-a.ga.n))) || (a.ga.kF i&&(decide (a.ga.n<=j)&&b.ga.fst (j-a.ga.n))))=true:=h3;rcases Ip a.ga.n j with hj|⟨k,rfl⟩
   ·left
    simp only[show ¬a.ga.n<=j from by omega,decide_false,Bool.false_and,Bool.and_false,Bool.or_false]at h1 h3;rw[wQ hj]at h2;refine⟨j,h1,h2,h3.imp id ?_⟩;rintro ⟨i,e1,e2⟩;rw[wQ (a.ga.tC i j e2).1]at e1;exact⟨i,e1,e2⟩
   ·right
    have z1:a.ga.st (a.ga.n+k) c=false:=Fq (u:=λi=>a.ga.st i c) λi h=>a.ga.qI i c h
    have z2:a.ga.fst (a.ga.n+k)=false:=Fq a.ga.xD;have z3:∀i,a.ga.ii i (a.ga.n+k)=false:=λi=>Fq (u:=a.ga.ii i) λj h=>(a.ga.tC i j h).2
    simp only[lV,z1,z2,z3,Bool.false_or,show a.ga.n<=a.ga.n+k from by omega,decide_true,Ag,fI,nt,lZ]at h1 h3;rw[Af]at h2;refine⟨k,h1,h2,?_⟩;rcases h3 with ⟨e1,e2,e3⟩|⟨i,e1,⟨e2,e3⟩|⟨e2,e3⟩⟩
    ·exact .inl ⟨by rw[e1,e2];rfl,e3⟩
    ·obtain⟨t,rfl⟩:∃t,i=a.ga.n+t:=⟨i-a.ga.n,by omega⟩;rw[Af]at e1;rw[lV]at e3;exact .inr ⟨t,e1,e3⟩
    ·refine .inl ⟨?_,e3⟩;rw[wQ (a.ga.tT i e2)]at e1;rw[(A7 m a).2 ⟨i,e2,e1⟩,Bool.or_true]
 |.o a b,g,x=>by
  show (dF m c a g x || dF m c b g x)=true↔_;rw[nt,IB m c a,IB m c b];constructor
  ·rintro (⟨j,h1,h2,h3⟩|⟨j,h1,h2,h3⟩)
   ·have hj:=a.ga.qI j c h1;refine⟨j,?_,?_,?_⟩
    ·show (a.ga.st j c || _)=true;rw[h1,Ah]
    ·show x=(a.cK++b.cK).getD j 0;rw[wQ hj];exact h2
    ·rcases h3 with ⟨e1,e2⟩|⟨i,e1,e2⟩
     ·left;refine⟨e1,?_⟩;show (a.ga.fst j || _)=true;rw[e2,Ah]
     ·right;refine⟨i,?_,?_⟩
      ·show m ((a.cK++b.cK).getD i 0)=true;rw[wQ (a.ga.tC i j e2).1];exact e1
      ·show (a.ga.ii i j || _)=true;rw[e2,Ah]
   ·have hj:=b.ga.qI j c h1;refine⟨a.ga.n+j,?_,?_,?_⟩
    ·show (a.ga.st (a.ga.n+j) c || (decide (a.ga.n<=a.ga.n+j)&&b.ga.st (a.ga.n+j-a.ga.n) c))=true;rw[lV,h1];simp
    ·show x=(a.cK++b.cK).getD (a.ga.n+j) 0;rw[Af];exact h2
    ·rcases h3 with ⟨e1,e2⟩|⟨i,e1,e2⟩
     ·left;refine⟨e1,?_⟩
      show (a.ga.fst (a.ga.n+j) || (decide (a.ga.n<=a.ga.n+j)&&b.ga.fst (a.ga.n+j-a.ga.n)))=true;rw[lV,e2];simp
     ·right;refine⟨a.ga.n+i,?_,?_⟩
      ·show m ((a.cK++b.cK).getD (a.ga.n+i) 0)=true;rw[Af];exact e1
      ·show (a.ga.ii (a.ga.n+i) (a.ga.n+j) || (decide (a.ga.n<=a.ga.n+i)&&(decide (a.ga.n<=a.ga.n+j)&&b.ga.ii (a.ga.n+i-a.ga.n) (a.ga.n+j-a.ga.n))))=true;rw[lV,lV,e2];simp
  ·rintro ⟨j,h1,h2,h3⟩;replace h1:(a.ga.st j c || (decide (a.ga.n<=j)&&b.ga.st (j-a.ga.n) c))=true:=h1;replace h2:x=(a.cK++b.cK).getD j 0:=h2;replace h3:(g=true/\(a.ga.fst j || (decide (a.ga.n<=j)&&b.ga.fst (j-a.ga.n)))=true)\/∃i,m ((a.cK++b.cK).getD i 0)=true/\(a.ga.ii i j || (decide (a.ga.n<=i)&&(decide (a.ga.n<=j)&&b.ga.ii (i-a.ga.n) (j-a.ga.n))))=true:=h3;rcases Ip a.ga.n j with hj|⟨k,rfl⟩
   ·left
    simp only[show ¬a.ga.n<=j from by omega,decide_false,Bool.false_and,Bool.and_false,Bool.or_false]at h1 h3;rw[wQ hj]at h2;refine⟨j,h1,h2,h3.imp id ?_⟩;rintro ⟨i,e1,e2⟩;rw[wQ (a.ga.tC i j e2).1]at e1;exact⟨i,e1,e2⟩
   ·right
    have z1:a.ga.st (a.ga.n+k) c=false:=Fq (u:=λi=>a.ga.st i c) λi h=>a.ga.qI i c h
    have z2:a.ga.fst (a.ga.n+k)=false:=Fq a.ga.xD;have z3:∀i,a.ga.ii i (a.ga.n+k)=false:=λi=>Fq (u:=a.ga.ii i) λj h=>(a.ga.tC i j h).2
    simp only[lV,z1,z2,z3,Bool.false_or,show a.ga.n<=a.ga.n+k from by omega,decide_true,Ag,fI,lZ]at h1 h3;rw[Af]at h2;refine⟨k,h1,h2,?_⟩;rcases h3 with e1|⟨i,e1,e2,e3⟩
    ·exact .inl e1
    ·obtain⟨t,rfl⟩:∃t,i=a.ga.n+t:=⟨i-a.ga.n,by omega⟩;rw[Af]at e1;rw[lV]at e3;exact .inr ⟨t,e1,e3⟩
 |.st a,g,x=>by
  show dF m c a (g || ig m a) x=true↔_;rw[IB m c a];constructor
  ·rintro ⟨j,h1,h2,h3⟩;refine⟨j,h1,h2,?_⟩;rcases h3 with ⟨e1,e2⟩|⟨i,e1,e2⟩
   ·rw[nt,A7]at e1;rcases e1 with e1|⟨i,e1,e3⟩
    ·exact .inl ⟨e1,e2⟩
    ·refine .inr ⟨i,e3,?_⟩;show (a.ga.ii i j || (a.ga.kF i&&a.ga.fst j))=true;rw[e1,e2];simp
   ·refine .inr ⟨i,e1,?_⟩;show (a.ga.ii i j || _)=true;rw[e2,Ah]
  ·rintro ⟨j,h1,h2,h3⟩;refine⟨j,h1,h2,?_⟩;rcases h3 with ⟨e1,e2⟩|⟨i,e1,e2⟩
   ·exact .inl ⟨by rw[e1,Ah],e2⟩
   ·replace e2:(a.ga.ii i j || (a.ga.kF i&&a.ga.fst j))=true:=e2;rw[nt,fI]at e2;rcases e2 with e2|⟨e2,e3⟩
    ·exact .inr ⟨i,e1,e2⟩
    ·exact .inl ⟨by rw[(A7 m a).2 ⟨i,e2,e1⟩,Bool.or_true],e3⟩
 |.e,g,x=>by
  show false=true↔∃j,false=true/\_;simp
end
theorem Tryz.zzL:(prog.info? 4).map (λi=>(i.zero,i.size,i.bytes))=za (za (.bool false),1,1):=by kernel_rfl
theorem zqy(rs:List (Int×Int))(c k:Nat)(hk:k<rs.length)(a b:Int)(h:rs.getD k (0,0)=(a,b)):tI (rs.drop k) c=(aG c a b || tI (rs.drop (k+1)) c):=by
 rw[Dn hk];have:rs[k]=(a,b):=by rw[<-h];simp[List.getD,hk]
 unfold tI;rw[List.any_cons,this]
 rfl
theorem ztF{lo:Nat}(v:zg)(rs:List (Int×Int))(c:Nat)(w:zc)(hs:nr lo w v rs)(gR:c<256):
  zh prog 69 #[v,.int .u8 c] w λe w'=>e=.returned (.bool (tI rs c))/\Below w.heap.size w w':=by
 obtain⟨ao,cap,rfl,hm,hc⟩:=hs;have Cf:(0:Int)<=(c:Int):=by omega
 have pO:(c:Int)<256:=by omega
 go_enter func69,ntmps69
 go_wp2
 go_loopw [9] (λi wr=>∃k:Nat,k<=rs.length/\i=zd .i64 k/\Hid (tI rs c=tI (rs.drop k) c)/\Below w.heap.size w wr)
  (λi _=>rs.length-(intOf i).toNat)
 case atStart=>exact⟨0,dz _,rfl,rfl,Below.refl _ _⟩
 case round=>
  obtain⟨k,hk,rfl,HS,hb⟩:=hrel
  by_cases hlt:k<rs.length
  ·obtain⟨b,o,x,y,rfl,Hn,bF,c0,c1⟩:=hc.elem hb hlt;have fW:Below w.heap.size w (wr.alloc (ze #[zd .i64 x,zd .i64 y] 137)):=hb.alloc hb.size _;have HD:Hid (tI (rs.drop k) c=(aG c x y || tI (rs.drop (k+1)) c)):=zqy rs c k hlt x y Hn.out
   go_wp2_with fail
   refine(ln _ _ _ _).mono ?_;rintro e w2 ⟨rfl,rfl⟩;cases hq:aG c x y
   ·go_wp2
    go_roundw
    case rel=>exact⟨k+1,by omega,by go_num,by show _=_;rw[HS.out,HD.out,hq,Bool.false_or],fW⟩
    case measure=>simp[intOf];omega
   ·go_wp2;go_ret;exact⟨cU (by rw[HS.out,HD.out,hq,Ah]),fW⟩
  ·go_wp2;go_ret;exact⟨cU (by rw[HS.out,Bn (by omega)];rfl),hb⟩
theorem zi7(N:Nat):(madeCells (Value.bool false).cells (N*1)).toList=List.replicate N (.bool false):=by
 apply FE
 ·simp[madeCells]
 ·intro i h1 h2;simp[madeCells,Value.cells,Nat.mod_one]
section
attribute [local go_sem ↓] wp_at_zero wp_at_succ
section
variable {W W' w:zc}{v a b c d nv bv k l r sv:zg}{g N:Nat}{m:Nat -> Bool}
theorem ag{p:Prop}(h:p):Hid p:=h
structure bB where
 k:Nat
 l:Nat
 r:Nat
 sv:zg
def bB.zero:bB:=⟨0,0,0,zf zb 0 0⟩
def Ob(x:bB):List zg:=[.int .u8 x.k,zd .i64 x.l,zd .i64 x.r,x.sv]
structure uy(W:zc)(v:zg)(Ns:List bB):Prop where
 len:Ns.length<=8589934592
 at_:∃ao cap,v=.slice ao Ns.length cap/\(0<Ns.length->∃g,ao=za ⟨g,0,zb⟩/\g<W.heap.size/\∀i,i<Ns.length->∀j u,(Ob (Ns.getD i .zero))[j]?=za u->W.cell? ⟨g,i*4+j,zb⟩=za u)
theorem uy.below{Ns:List bB}(h:uy W v Ns)(hb:Below W.heap.size W W'):uy W' v Ns:=by
 obtain⟨hl,ao,cap,rfl,h⟩:=h;refine⟨hl,ao,cap,rfl,λh0=>?_⟩;obtain⟨g,rfl,hg,hc⟩:=h h0;exact⟨g,rfl,dR hg hb.size,λi hi j u hu=>by rw[World.cell?_of_block (w:=W) (hb.block g hg)];exact hc i hi j u hu⟩
theorem uy.node{Ns:List bB}(h:uy W v Ns){n k l r:Nat}{sv:zg}(hx:Ns[n]?=za ⟨k,l,r,sv⟩):∃g cap,v=zf (za ⟨g,0,zb⟩) Ns.length cap/\n<Ns.length/\g<W.heap.size/\
  W.cell? ⟨g,n*4,zb⟩=za (.int .u8 k)/\W.cell? ⟨g,n*4+1,zb⟩=za (zd .i64 l)/\W.cell? ⟨g,n*4+2,zb⟩=za (zd .i64 r)/\W.cell? ⟨g,n*4+3,zb⟩=za sv:=by
 obtain⟨hl,ao,cap,rfl,h⟩:=h;have hn:=(mA.1 hx).1;obtain⟨g,rfl,hg,hc⟩:=h (by omega);have hd:Ns.getD n .zero=⟨k,l,r,sv⟩:=by simp[List.getD,hx]
 have:=hc n hn;rw[hd]at this;exact⟨g,cap,rfl,hn,hg,this 0 _ rfl,this 1 _ rfl,this 2 _ rfl,this 3 _ rfl⟩
def mB(w0:zc)(Ns:List bB):GT->Nat->Prop
 |.s p f,n=>n=p/\∃sv rs,Ns[n]?=za ⟨115,0,0,sv⟩/\nr 0 w0 sv rs/\∀c,tI rs c=f c
 |.q a b,n=>∃l r,Ns[n]?=za ⟨113,l,r,zf zb 0 0⟩/\mB w0 Ns a l/\mB w0 Ns b r
 |.o a b,n=>∃l r,Ns[n]?=za ⟨111,l,r,zf zb 0 0⟩/\mB w0 Ns a l/\mB w0 Ns b r
 |.st a,n=>∃l,Ns[n]?=za ⟨42,l,0,zf zb 0 0⟩/\mB w0 Ns a l
 |.e,n=>Ns[n]?=za ⟨101,0,0,zf zb 0 0⟩
theorem mB.more{w0:zc}{Ns:List bB}(Ms:List bB):∀{T:GT} {n:Nat},mB w0 Ns T n->mB w0 (Ns++Ms) T n
 |.s p f,n,⟨h,sv,rs,h1,h2⟩=>⟨h,sv,rs,by rw[vp (mA.1 h1).1];exact h1,h2⟩
 |.q a b,n,⟨l,r,h1,h2,h3⟩=>⟨l,r,by rw[vp (mA.1 h1).1];exact h1,h2.more Ms,h3.more Ms⟩
 |.o a b,n,⟨l,r,h1,h2,h3⟩=>⟨l,r,by rw[vp (mA.1 h1).1];exact h1,h2.more Ms,h3.more Ms⟩
 |.st a,n,⟨l,h1,h2⟩=>⟨l,by rw[vp (mA.1 h1).1];exact h1,h2.more Ms⟩
 |.e,n,h=>by
  have h:Ns[n]?=za ⟨101,0,0,zf zb 0 0⟩:=h;show (Ns++Ms)[n]?=_;rw[vp (mA.1 h).1];exact h
theorem Ui(w:zc)(a b:Obj):((w.alloc a).alloc b).heap[w.heap.size+1]?=za b:=by
 have:=aJ (w.alloc a) b
 simpa using this
theorem dV{t:zi}(h:W.heap[g]?=za (ze #[a,b] t (0,0))):W.cell? ⟨g,0,zb⟩=za a/\W.cell? ⟨g,1,zb⟩=za b:=by
 have:∀o,W.cell? ⟨g,o,zb⟩=#[a,b][o]?:=λ_=>iY _ _ _ _ _ _ h
 exact⟨this 0,this 1⟩
theorem eG{t:zi}(h:W.heap[g]?=za (ze #[a,b,c,d] t (0,0))):W.cell? ⟨g,0,zb⟩=za a/\W.cell? ⟨g,1,zb⟩=za b/\W.cell? ⟨g,2,zb⟩=za c/\W.cell? ⟨g,3,zb⟩=za d:=by
 have:∀o,W.cell? ⟨g,o,zb⟩=#[a,b,c,d][o]?:=λ_=>iY _ _ _ _ _ _ h
 exact⟨this 0,this 1,this 2,this 3⟩
theorem zqh{t:zi}(h:W.heap[g]?=za (ze #[a,b,c,d] t (0,0))):W.frozen? ⟨g,0,zb⟩=false/\W.frozen? ⟨g,1,zb⟩=false/\W.frozen? ⟨g,2,zb⟩=false/\W.frozen? ⟨g,3,zb⟩=false:=
 ⟨aM _ _ 0 _ _ h,aM _ _ 1 _ _ h,aM _ _ 2 _ _ h,aM _ _ 3 _ _ h⟩
structure Bx(w W:zc)(nv bv:zg)(k l r sv:zg):Prop where
 bl:Below w.heap.size w W
 x0:W.heap[w.heap.size]?=za (ze #[nv,bv] 89 (0,0))
 x1:W.heap[w.heap.size+1]?=za (ze #[k,l,r,sv] 124 (0,0))
theorem Bx.start(h:(w.alloc (ze #[nv,bv] 89)).alloc (ze #[k,l,r,sv] 124)=W):Bx w W nv bv k l r sv:=by
 subst h;exact⟨(ax).alloc (by simp) _,qK (aJ _ _),Ui _ _ _⟩
theorem Bx.call(h:Bx w W nv bv k l r sv)(hb:Below W.heap.size W W'):Bx w W' nv bv k l r sv:=
 ⟨aH h.bl h.bl.size hb,(hb.block _ (ay h.x0)).trans h.x0,(hb.block _ (ay h.x1)).trans h.x1⟩
def AD(N:Nat)(m:Nat->Bool):Array zg:=((List.range N).map λi=>Value.bool (m i)).toArray
theorem zsc{i:Nat}(m:Nat->Bool)(h:i<N):(AD N m)[i]?=za (.bool (m i)):=by simp[AD,h]
def gZ(w:zc)(g N:Nat)(m:Nat->Bool):Prop:=w.heap[g]?=za (ze (AD N m) 4 (0,0))
theorem gZ.cell(h:gZ w g N m)(i:Nat)(hi:i<N):w.cell? ⟨g,i,zb⟩=za (.bool (m i)):=by
 rw[show w.cell? ⟨g,i,zb⟩=(AD N m)[i]? from iY _ _ _ _ _ _ h];exact zsc m hi
theorem gZ.below(h:gZ w g N m)(hb:Below w.heap.size w W):gZ W g N m:=(hb.block g (ay h)).trans h
def Dv(w0:zc)(T:GT):Prop:=∀(Ns:List bB) (n:Nat) (w:zc) (nv bv:zg),uy w nv Ns->mB w0 Ns T n->
 zh prog 71 #[.agg #[nv,bv],zd .i64 n] w λe W=>e=.returned (.bool T.ga.fC)/\Below w.heap.size w W
theorem ZJ(w0:zc)(T:GT)(k:Nat)(hk:(k=115/\T.ga.fC=false)\/(k=42/\T.ga.fC=true)\/(k=101/\T.ga.fC=true))(hT:∀Ns n,mB w0 Ns T n->∃l r ao m cp,Ns[n]?=za ⟨k,l,r,.slice ao m cp⟩):Dv w0 T:=by
 intro Ns n w nv bv hN hA;obtain⟨l,r,ao,m,cp,hx⟩:=hT Ns n hA;obtain⟨g,cap,rfl,hn,hg,c0,c1,c2,c3⟩:=hN.node hx;have hl:=hN.len;have eC:(0:Int)<=(n:Int):=by omega
 have dg:(n:Int)<(Ns.length:Int):=by omega
 clear hA hx hN hT;rcases hk with ⟨rfl,he⟩|⟨rfl,he⟩|⟨rfl,he⟩
 all_goals
  rw[he];clear he
  go_enter func71,ntmps71
  go_wp2;go_ret;exact⟨rfl,(ax).alloc (by simp) _⟩
theorem zt6(w0:zc)(a b:GT)(ha:Dv w0 a)(hb:Dv w0 b):Dv w0 (.q a b):=by
 intro Ns n w nv bv hN hA;rw[show (GT.q a b).ga.fC=(a.ga.fC&&b.ga.fC) from rfl];obtain⟨l,r,hx,hl,hr⟩:=hA;obtain⟨g,cap,rfl,hn,hg,c0,c1,c2,c3⟩:=hN.node hx;have jo:=hN.len;have eC:(0:Int)<=(n:Int):=by omega
 have dg:(n:Int)<(Ns.length:Int):=by omega
 obtain⟨W0,aw⟩:∃W0,(w.alloc (ze #[zf (za ⟨g,0,zb⟩) Ns.length cap,bv] 89)).alloc (ze #[.int .u8 113,zd .i64 l,zd .i64 r,zf zb 0 0] 124)=W0:=⟨_,rfl⟩;have bS:=Bx.start aw;have ky:=hN.below bS.bl;obtain⟨p0,p1⟩:=dV bS.x0;obtain⟨q0,q1,q2,q3⟩:=eG bS.x1;have ca:=ha Ns l W0 _ bv ky hl;have bD:=ag aw;have gX:=ag bS;have uq:=ag ky;clear hx hN ky aw bS
 go_enter func71,ntmps71
 go_upto_region 2 with fail
 rw[bD.out];clear bD c0 c1 c2 c3
 go_wp2_with fail
 refine ca.mono ?_;rintro e W1 ⟨rfl,b1⟩;have gq:=ag (gX.out.call b1);obtain⟨p0,p1⟩:=dV gq.out.x0;obtain⟨q0,q1,q2,q3⟩:=eG gq.out.x1;have qo:=ag (uq.out.below b1);have cb:=hb Ns r W1 _ bv qo.out hr;clear ca qo uq;cases he:a.ga.fC
 ·go_wp2;go_ret;exact⟨by simp[he],gq.out.bl⟩
 ·go_wp2_with fail
  refine cb.mono ?_;rintro e W2 ⟨rfl,b2⟩;go_wp2;go_ret;exact⟨by simp[he],(gq.out.call b2).bl⟩
theorem zt5(w0:zc)(a b:GT)(ha:Dv w0 a)(hb:Dv w0 b):Dv w0 (.o a b):=by
 intro Ns n w nv bv hN hA;rw[show (GT.o a b).ga.fC=(a.ga.fC || b.ga.fC) from rfl];obtain⟨l,r,hx,hl,hr⟩:=hA;obtain⟨g,cap,rfl,hn,hg,c0,c1,c2,c3⟩:=hN.node hx;have jo:=hN.len;have eC:(0:Int)<=(n:Int):=by omega
 have dg:(n:Int)<(Ns.length:Int):=by omega
 obtain⟨W0,aw⟩:∃W0,(w.alloc (ze #[zf (za ⟨g,0,zb⟩) Ns.length cap,bv] 89)).alloc (ze #[.int .u8 111,zd .i64 l,zd .i64 r,zf zb 0 0] 124)=W0:=⟨_,rfl⟩;have bS:=Bx.start aw;have ky:=hN.below bS.bl;obtain⟨p0,p1⟩:=dV bS.x0;obtain⟨q0,q1,q2,q3⟩:=eG bS.x1;have ca:=ha Ns l W0 _ bv ky hl;have bD:=ag aw;have gX:=ag bS;have uq:=ag ky;clear hx hN ky aw bS
 go_enter func71,ntmps71
 go_upto_region 2 with fail
 rw[bD.out];clear bD c0 c1 c2 c3
 go_wp2_with fail
 refine ca.mono ?_;rintro e W1 ⟨rfl,b1⟩;have gq:=ag (gX.out.call b1);obtain⟨p0,p1⟩:=dV gq.out.x0;obtain⟨q0,q1,q2,q3⟩:=eG gq.out.x1;have qo:=ag (uq.out.below b1);have cb:=hb Ns r W1 _ bv qo.out hr;clear ca qo uq;cases he:a.ga.fC
 ·go_wp2_with fail
  refine cb.mono ?_;rintro e W2 ⟨rfl,b2⟩;go_wp2;go_ret;exact⟨by simp[he],(gq.out.call b2).bl⟩
 ·go_wp2;go_ret;exact⟨by simp[he],gq.out.bl⟩
theorem Ih(w0:zc):∀T:GT,Dv w0 T
 |.s _ _=>ZJ w0 _ 115 (.inl ⟨rfl,rfl⟩) λ_ _ ⟨_,_,rs,h1,⟨ao,cp,h2,_⟩,_⟩=>⟨0,0,ao,rs.length,cp,h2 ▸ h1⟩
 |.q a b=>zt6 w0 a b (Ih w0 a) (Ih w0 b)
 |.o a b=>zt5 w0 a b (Ih w0 a) (Ih w0 b)
 |.st _=>ZJ w0 _ 42 (.inr (.inl ⟨rfl,rfl⟩)) λ_ _ ⟨l,h1,_⟩=>⟨l,0,zb,0,0,h1⟩
 |.e=>ZJ w0 _ 101 (.inr (.inr ⟨rfl,rfl⟩)) λ_ _ h=>⟨0,0,zb,0,0,h⟩
def yH(w0:zc)(T:GT):Prop:=∀(Ns:List bB) (n:Nat) (w:zc) (nv bv:zg) (gm cm N:Nat) (m:Nat->Bool),uy w nv Ns->mB w0 Ns T n->gZ w gm N m->Ns.length<=N->
 zh prog 70 #[.agg #[nv,bv],zd .i64 n,zf (za ⟨gm,0,zb⟩) N cm] w λe W=>e=.returned (.bool (ig m T))/\Below w.heap.size w W
theorem zt9(w0:zc):yH w0 .e:=by
 intro Ns n w nv bv gm cm N m hN hA hM uG;have hx:Ns[n]?=za ⟨101,0,0,zf zb 0 0⟩:=hA;clear hA;obtain⟨g,cap,rfl,hn,hg,c0,c1,c2,c3⟩:=hN.node hx;have jo:=hN.len;have eC:(0:Int)<=(n:Int):=by omega
 have dg:(n:Int)<(Ns.length:Int):=by omega
 obtain⟨W0,aw⟩:∃W0,(w.alloc (ze #[zf (za ⟨g,0,zb⟩) Ns.length cap,bv] 89)).alloc (ze #[.int .u8 101,zd .i64 0,zd .i64 0,zf zb 0 0] 124)=W0:=⟨_,rfl⟩;have bS:=Bx.start aw;have ky:=hN.below bS.bl;obtain⟨p0,p1⟩:=dV bS.x0;obtain⟨q0,q1,q2,q3⟩:=eG bS.x1;have bD:=ag aw;have gX:=ag bS;have uq:=ag ky;clear hx hN ky aw bS
 go_enter func70,ntmps70
 go_upto_region 2 with fail
 rw[bD.out];clear bD c0 c1 c2 c3;clear uG;go_wp2;go_ret;exact⟨rfl,gX.out.bl⟩
theorem zuc(w0:zc)(p:Nat)(f:Nat->Bool):yH w0 (.s p f):=by
 intro Ns n w nv bv gm cm N m hN hA hM uG;obtain⟨rfl,sv,rs,hx,⟨ao,cp,rfl,-⟩,-⟩:=hA;obtain⟨g,cap,rfl,hn,hg,c0,c1,c2,c3⟩:=hN.node hx;have jo:=hN.len;have eC:(0:Int)<=(n:Int):=by omega
 have dg:(n:Int)<(Ns.length:Int):=by omega
 obtain⟨W0,aw⟩:∃W0,(w.alloc (ze #[zf (za ⟨g,0,zb⟩) Ns.length cap,bv] 89)).alloc (ze #[.int .u8 115,zd .i64 0,zd .i64 0,.slice ao rs.length cp] 124)=W0:=⟨_,rfl⟩;have bS:=Bx.start aw;have ky:=hN.below bS.bl;obtain⟨p0,p1⟩:=dV bS.x0;obtain⟨q0,q1,q2,q3⟩:=eG bS.x1;have cm0:=(hM.below bS.bl).cell n (by omega);have se:(n:Int)<(N:Int):=by omega
 have bD:=ag aw;have gX:=ag bS;have uq:=ag ky;clear hx hN ky aw bS
 go_enter func70,ntmps70
 go_upto_region 2 with fail
 rw[bD.out];clear bD c0 c1 c2 c3;clear hM uG;go_wp2;go_ret;exact⟨rfl,gX.out.bl⟩
theorem zsx(w0:zc)(a:GT)(ha:yH w0 a):yH w0 (.st a):=by
 intro Ns n w nv bv gm cm N m hN hA hM uG;obtain⟨l,hx,hl⟩:=hA;obtain⟨g,cap,rfl,hn,hg,c0,c1,c2,c3⟩:=hN.node hx;have jo:=hN.len;have eC:(0:Int)<=(n:Int):=by omega
 have dg:(n:Int)<(Ns.length:Int):=by omega
 obtain⟨W0,aw⟩:∃W0,(w.alloc (ze #[zf (za ⟨g,0,zb⟩) Ns.length cap,bv] 89)).alloc (ze #[.int .u8 42,zd .i64 l,zd .i64 0,zf zb 0 0] 124)=W0:=⟨_,rfl⟩;have bS:=Bx.start aw;have ky:=hN.below bS.bl;obtain⟨p0,p1⟩:=dV bS.x0;obtain⟨q0,q1,q2,q3⟩:=eG bS.x1;have ca:=ha Ns l W0 _ bv gm cm N m ky hl (hM.below bS.bl) uG;have bD:=ag aw;have gX:=ag bS;have uq:=ag ky;clear hx hN ky aw bS
 go_enter func70,ntmps70
 go_upto_region 2 with fail
 rw[bD.out];clear bD c0 c1 c2 c3;clear hM uG
 go_wp2_with fail
 refine ca.mono ?_;rintro e W1 ⟨rfl,b1⟩;go_wp2;go_ret;exact⟨rfl,(gX.out.call b1).bl⟩
theorem zua(w0:zc)(a b:GT)(ha:yH w0 a)(hb:yH w0 b):yH w0 (.o a b):=by
 intro Ns n w nv bv gm cm N m hN hA hM uG;rw[show ig m (.o a b)=(ig m a || ig m b) from rfl];obtain⟨l,r,hx,hl,hr⟩:=hA;obtain⟨g,cap,rfl,hn,hg,c0,c1,c2,c3⟩:=hN.node hx;have jo:=hN.len;have eC:(0:Int)<=(n:Int):=by omega
 have dg:(n:Int)<(Ns.length:Int):=by omega
 obtain⟨W0,aw⟩:∃W0,(w.alloc (ze #[zf (za ⟨g,0,zb⟩) Ns.length cap,bv] 89)).alloc (ze #[.int .u8 111,zd .i64 l,zd .i64 r,zf zb 0 0] 124)=W0:=⟨_,rfl⟩;have bS:=Bx.start aw;have ky:=hN.below bS.bl;obtain⟨p0,p1⟩:=dV bS.x0;obtain⟨q0,q1,q2,q3⟩:=eG bS.x1;have ca:=ha Ns l W0 _ bv gm cm N m ky hl (hM.below bS.bl) uG;have bD:=ag aw;have gX:=ag bS;have uq:=ag ky;clear hx hN ky aw bS
 go_enter func70,ntmps70
 go_upto_region 2 with fail
 rw[bD.out];clear bD c0 c1 c2 c3;have mF:=ag uG;clear uG
 go_wp2_with fail
 refine ca.mono ?_;rintro e W1 ⟨rfl,b1⟩;have gq:=ag (gX.out.call b1);obtain⟨p0,p1⟩:=dV gq.out.x0;obtain⟨q0,q1,q2,q3⟩:=eG gq.out.x1;have qo:=ag (uq.out.below b1);have cb:=hb Ns r W1 _ bv gm cm N m qo.out hr (hM.below gq.out.bl) mF.out;clear ca qo uq hM;cases he:ig m a
 ·go_wp2_with fail
  refine cb.mono ?_;rintro e W2 ⟨rfl,b2⟩;go_wp2;go_ret;exact⟨by simp[he],(gq.out.call b2).bl⟩
 ·go_wp2;go_ret;exact⟨by simp[he],gq.out.bl⟩
theorem zub(w0:zc)(a b:GT)(ha:yH w0 a)(hb:yH w0 b):yH w0 (.q a b):=by
 intro Ns n w nv bv gm cm N m hN hA hM uG;rw[show ig m (.q a b)=(ig m b || (ig m a&&b.ga.fC)) from rfl];obtain⟨l,r,hx,hl,hr⟩:=hA;obtain⟨g,cap,rfl,hn,hg,c0,c1,c2,c3⟩:=hN.node hx;have jo:=hN.len;have eC:(0:Int)<=(n:Int):=by omega
 have dg:(n:Int)<(Ns.length:Int):=by omega
 obtain⟨W0,aw⟩:∃W0,(w.alloc (ze #[zf (za ⟨g,0,zb⟩) Ns.length cap,bv] 89)).alloc (ze #[.int .u8 113,zd .i64 l,zd .i64 r,zf zb 0 0] 124)=W0:=⟨_,rfl⟩;have bS:=Bx.start aw;have ky:=hN.below bS.bl;obtain⟨p0,p1⟩:=dV bS.x0;obtain⟨q0,q1,q2,q3⟩:=eG bS.x1;have cb:=hb Ns r W0 _ bv gm cm N m ky hr (hM.below bS.bl) uG;have bD:=ag aw;have gX:=ag bS;have uq:=ag ky;clear hx hN ky aw bS
 go_enter func70,ntmps70
 go_upto_region 2 with fail
 rw[bD.out];clear bD c0 c1 c2 c3;have mF:=ag uG;clear uG
 go_wp2_with fail
 refine cb.mono ?_;rintro e W1 ⟨rfl,b1⟩;have gq:=ag (gX.out.call b1);obtain⟨p0,p1⟩:=dV gq.out.x0;obtain⟨q0,q1,q2,q3⟩:=eG gq.out.x1;have qo:=ag (uq.out.below b1);have ca:=ha Ns l W1 _ bv gm cm N m qo.out hl (hM.below gq.out.bl) mF.out;clear cb uq hM;cases he:ig m b
 ·go_wp2_with fail
  refine ca.mono ?_;rintro e W2 ⟨rfl,b2⟩;have jB:=ag (gq.out.call b2);obtain⟨p0,p1⟩:=dV jB.out.x0;obtain⟨q0,q1,q2,q3⟩:=eG jB.out.x1;have FT:=ag (qo.out.below b2);have ce:=Ih w0 b Ns r W2 _ bv FT.out hr;clear ca qo;cases XC:ig m a
  ·go_wp2;go_ret;exact⟨by simp[he,XC],jB.out.bl⟩
  ·go_wp2_with fail
   refine ce.mono ?_;rintro e W3 ⟨rfl,b3⟩;go_wp2;go_ret;exact⟨by simp[he,XC],(jB.out.call b3).bl⟩
 ·go_wp2;go_ret;exact⟨by simp[he],gq.out.bl⟩
theorem CQ(w0:zc):∀T:GT,yH w0 T
 |.s p f=>zuc w0 p f
 |.q a b=>zub w0 a b (CQ w0 a) (CQ w0 b)
 |.o a b=>zua w0 a b (CQ w0 a) (CQ w0 b)
 |.st a=>zsx w0 a (CQ w0 a)
 |.e=>zt9 w0
end
theorem TB(W:zc)(b j:Nat)(v:zg):W.grownBy (W.setCell ⟨b,j,zb⟩ v) (za b):=
 ⟨rfl,rfl,rfl,by simp,λk _ hk=>Below.heap_setCell W _ _ k (λe=>hk (by rw[e]))⟩
def qk(n:Nat)(T:Nat->Nat):Array zg:=((List.range n).map λi=>Value.int .u64 (T i:Int)).toArray
theorem zip(n:Nat)(T:Nat->Nat){i:Nat}(h:i<n):(qk n T)[i]?=za (.int .u64 (T i:Int)):=by
 simp[qk,h]
def oQ(T:Nat->Nat)(s:Nat):Bool:=(T (s/64)).testBit (s%64)
theorem zq1(x y:Nat)(hx:x<18446744073709551616)(hy:y<18446744073709551616):bits BinOp.or IntKind.u64 (x:Int) (y:Int)=((x ||| y:Nat):Int):=by
 have h1:(BitVec.ofInt 64 (x:Int) ||| BitVec.ofInt 64 (y:Int)).toNat=x ||| y:=by
  rw[BitVec.ofInt_natCast,BitVec.ofInt_natCast,BitVec.toNat_or,BitVec.toNat_ofNat,BitVec.toNat_ofNat,FH (by omega),FH (by omega)]
 have h2:x ||| y<18446744073709551616:=Nat.or_lt_two_pow (n:=64) hx hy
 show IntKind.u64.wrap ((BitVec.ofInt 64 (x:Int) ||| BitVec.ofInt 64 (y:Int)).toNat:Int)=_;rw[h1];simp[IntKind.wrap,IntKind.bits,IntKind.signed];omega
theorem zkw(x:Nat):IntKind.u64.wrap (x:Int)=((x%18446744073709551616:Nat):Int):=by
 simp[IntKind.wrap,IntKind.bits,IntKind.signed]
theorem zrW(n:Nat)(T:Nat->Nat)(i x:Nat):(qk n T).setIfInBounds i (.int .u64 (x:Int))=qk n (λj=>if j=i then x else T j):=by
 apply Array.ext'
 unfold qk;simp only[vl];apply FE
 ·simp
 ·intro j h1 h2;simp only[List.getElem_set,List.getElem_map,List.getElem_range]
  by_cases e:i=j
  ·subst e;simp
  ·rw[ab e,ab (λh=>e h.symm)]
def tz(T:Nat->Nat)(p:Nat):Nat->Nat:=λj=>if j=p/64 then T (p/64) ||| 2 ^ (p%64) else T j
theorem ztS(T:Nat->Nat)(hT:∀i,T i<18446744073709551616)(p:Nat):∀i,tz T p i<18446744073709551616:=λi=>by
 unfold tz;split
 ·exact Nat.or_lt_two_pow (n:=64) (hT _) (Nat.pow_lt_pow_right (by omega) (by omega))
 ·exact hT i
theorem zr5(T:Nat->Nat)(p s:Nat):oQ (tz T p) s=(oQ T s || decide (s=p)):=by
 unfold oQ tz
 by_cases h:s/64=p/64
 ·rw[af h,Nat.testBit_or,Nat.testBit_two_pow,h]
  congr 1
  by_cases e:s=p
  ·subst e;simp
  ·have:¬p%64=s%64:=by omega
   simp[this,e]
 ·rw[ab h];have:¬s=p:=λe=>h (by rw[e])
  simp[this]
theorem zn1:∀(n x:Nat),x<=n->0<x->∃k t,x=2 ^ k*(2*t+1)
 |0,x,h,h0=>by omega
 |n+1,x,h,h0=>by
  by_cases e:x%2=1
  ·exact⟨0,x/2,by omega⟩
  ·obtain⟨k,t,hk⟩:=zn1 n (x/2) (by omega) (by omega);refine⟨k+1,t,?_⟩;rw[Nat.pow_succ,Nat.mul_assoc,Nat.mul_comm 2,<-Nat.mul_assoc,<-hk];omega
structure Low(x k:Nat):Prop where
 bit:x.testBit k=true
 low:∀j,j<k->x.testBit j=false
theorem zvu(k t:Nat):Low (2 ^ k*(2*t+1)) k:=by
 constructor
 ·rw[Nat.testBit_two_pow_mul];simp
 ·intro j hj;rw[Nat.testBit_two_pow_mul];simp;omega
theorem zuw{x k t:Nat}(hx:x=2 ^ k*(2*t+1))(hl:x<2 ^ 64):x &&& (2 ^ 64-x)=2 ^ k:=by
 have hp:0<2 ^ k:=Nat.two_pow_pos k;have h0:0<x:=by rw[hx];exact Nat.mul_pos hp (by omega)
 have e1:2 ^ 64-x=2 ^ 64-((x-1)+1):=by omega
 have e2:x-1=2 ^ k*(2*t)+(2 ^ k-1):=by
  rw[hx,Nat.mul_add,Nat.mul_one];omega
 apply Nat.eq_of_testBit_eq
 intro i;rw[Nat.testBit_and,e1,Nat.testBit_two_pow_sub_succ (by omega),e2,Nat.testBit_two_pow_mul_add _ (by omega),hx,Nat.testBit_two_pow_mul,Nat.testBit_two_pow];have hk:k<64:=by
  rcases iX k 64 with h|h
  ·exact h
  ·have:2 ^ 64<=2 ^ k:=Nat.pow_le_pow_right (by omega) h;have:2 ^ k<=x:=by rw[hx];exact Nat.le_mul_of_pos_right _ (by omega)
   omega
 by_cases h1:i<k
 ·have:¬k<=i:=by omega
  have h2:¬k=i:=by omega
  simp[this,h2]
 ·by_cases h2:i=k
  ·subst h2;simp[hk]
  ·have h3:k<=i:=by omega
   have h4:¬k=i:=by omega
   have h5:¬i-k=0:=by omega
   obtain⟨m,hm⟩:∃m,i-k=m+1:=⟨i-k-1,by omega⟩;have a1:(2*t+1).testBit (m+1)=t.testBit m:=by rw[Nat.testBit_succ];congr 1;omega
   have a2:(2*t).testBit (m+1)=t.testBit m:=by rw[Nat.testBit_succ];congr 1;omega
   rw[ab h1,hm,a1,a2];cases t.testBit m<;>simp[h4]
def Pc:List Nat:=[0,1,56,2,57,49,28,3,61,58,42,50,38,29,17,4,62,47,59,36,45,43,51,22,53,39,33,30,24,18,12,5,63,55,48,27,60,41,37,16,46,35,44,21,52,32,23,11,54,26,40,15,34,20,31,10,25,14,19,9,13,8,7,6]
theorem zvj:∀k,k<64->(2 ^ k*285870213051353865%18446744073709551616)/2 ^ 58<64/\Pc.getD ((2 ^ k*285870213051353865%18446744073709551616)/2 ^ 58) 0=k:=by decide
def Dg(w:zc):Prop:=∀i,i<64->w.cell? ⟨0,i,zb⟩=za (.int .u8 (Pc.getD i 0:Int))
theorem ztT(x y:Nat)(hx:x<18446744073709551616)(hy:y<18446744073709551616):bits BinOp.and IntKind.u64 (x:Int) (y:Int)=((x &&& y:Nat):Int):=by
 have h1:(BitVec.ofInt 64 (x:Int) &&& BitVec.ofInt 64 (y:Int)).toNat=x &&& y:=by
  rw[BitVec.ofInt_natCast,BitVec.ofInt_natCast,BitVec.toNat_and,BitVec.toNat_ofNat,BitVec.toNat_ofNat,FH (by omega),FH (by omega)]
 have h2:x &&& y<=x:=Nat.and_le_left;show IntKind.u64.wrap ((BitVec.ofInt 64 (x:Int) &&& BitVec.ofInt 64 (y:Int)).toNat:Int)=_;rw[h1];simp[IntKind.wrap,IntKind.bits,IntKind.signed];omega
theorem zvX(x k t:Nat)(w:zc)(hx:Hid (x=2 ^ k*(2*t+1)))(hl:x<18446744073709551616)(h0:0<x)(hk:k<64)(hB:Hid (Dg w)):
  zh prog 65 #[.int .u64 x] w λe w'=>e=.returned (zd .i64 k)/\w'=w:=by
 have b0:((x:Int)==0)=false:=by simp;omega
 have hn:IntKind.u64.wrap (-(x:Int))=((18446744073709551616-x:Nat):Int):=by
  simp[IntKind.wrap,IntKind.bits,IntKind.signed];omega
 have ha:bits BinOp.and IntKind.u64 (x:Int) (IntKind.u64.wrap (-(x:Int)))=((2 ^ k:Nat):Int):=by
  rw[hn,ztT _ _ hl (by omega)];have h:=zuw hx.out (show x<2 ^ 64 by omega);rw[show (2:Nat) ^ 64=18446744073709551616 by decide]at h;rw[h]
 obtain⟨hi,ht⟩:=zvj k hk;have hE:IntKind.u64.wrap (bits BinOp.and IntKind.u64 (x:Int) (IntKind.u64.wrap (-(x:Int)))*285870213051353865)/288230376151711744=(((2 ^ k*285870213051353865%18446744073709551616)/2 ^ 58:Nat):Int):=by
  rw[ha,show ((2 ^ k:Nat):Int)*285870213051353865=((2 ^ k*285870213051353865:Nat):Int) by simp,zkw];generalize 2 ^ k*285870213051353865%18446744073709551616=y;omega
 have c0:w.cell? ⟨0,(IntKind.u64.wrap (bits BinOp.and IntKind.u64 (x:Int) (IntKind.u64.wrap (-(x:Int)))*285870213051353865)/288230376151711744).toNat,zb⟩=za (.int .u8 (k:Int)):=by rw[hE,s7,hB.out _ hi,ht]
 have q0:0<=IntKind.u64.wrap (bits BinOp.and IntKind.u64 (x:Int) (IntKind.u64.wrap (-(x:Int)))*285870213051353865)/288230376151711744:=by rw[hE];omega
 have q1:IntKind.u64.wrap (bits BinOp.and IntKind.u64 (x:Int) (IntKind.u64.wrap (-(x:Int)))*285870213051353865)/288230376151711744<64:=by rw[hE];omega
 clear hn ha ht hx hl h0 hB hi hE
 go_enter func65,ntmps65
 go_wp2;go_ret;exact⟨rfl,rfl⟩
theorem zlF{w:zc}{base:Nat}{e:zi}{g n:Nat}{xs:List zg}(h:w.ownsRow base e 1 (zf (za ⟨g,0,zb⟩) n n) n xs):w.heap[g]?=za (ze xs.toArray e (0,0)):=by
 rcases h.2 with ⟨h,_⟩|⟨g',cap,cr,h,_,et,_,_,hsz,eV⟩
 ·cases h
 ·cases h
  rw[et]
  congr 2
  apply Array.ext'
  rw[sX (by simp[hsz])]at eV;rw[eV]
end
end Go.Proofs.YtfajjdgkiilhfaaGreatDoor
