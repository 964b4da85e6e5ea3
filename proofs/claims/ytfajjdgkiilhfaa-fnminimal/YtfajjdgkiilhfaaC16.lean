import Derived.Test.YtfajjdgkiilhfaaC15
import Derived.Deep.QuietTactic
import Derived.Deep.DrawnRows
namespace Go.Proofs.Ytfajjdgkiilhfaa
set_option maxHeartbeats 400000
set_option maxRecDepth 100000
open Go.RowKit
def fW(ns:List aI):Nat->List Int
 |0=>[]
 |i+1=>Gs (fW ns i) (ns.getD i .zero)
def fh(ns:List aI)(i:Nat):Int:=qg (ns.getD i .zero) ((fW ns i).drop ((fW ns i).length-aV (dK ns i)))
theorem Uw(ns:List aI):∀i,(aQ ns i).map (fh ns)=fW ns i
 |0=>rfl
 |i+1=>by
  have ih:=Uw ns i;have hl:(aQ ns i).length=(fW ns i).length:=by rw[<-ih,jK]
  rw[aQ,fW,Gs,rR,List.map_take,ih,hl]
  rfl
theorem P9(ns:List aI)(i:Nat):(fW ns i).length=(aQ ns i).length:=by rw[<-Uw,jK]
theorem Uo(ns:List aI)(i j:Nat)(h:j<(aQ ns i).length):(fW ns i).getD j 0=fh ns ((aQ ns i).getD j 0):=by
 rw[<-Uw];simp[List.getD_eq_getElem?_getD,h]
theorem zij:∀(ns:List aI) (st Pr:List Int),Eh ns st=some Pr->gD ns st.length=some Pr.length/\ns.all bG=true
 |[],st,Pr,h=>by cases h;exact⟨rfl,rfl⟩
 |n::ns,st,Pr,h=>by
  unfold Eh at h
  by_cases hc:st.length<aV n.kind\/bG n=false
  ·rw[ae hc]at h;cases h
  ·rw[ab hc]at h;have hl:(Gs st n).length=st.length-aV n.kind+1:=by simp[Gs]
   obtain⟨h1,h2⟩:=zij ns (Gs st n) Pr h;refine⟨?_,?_⟩
   ·unfold gD;rw[ab (λq=>hc (.inl q)),<-hl];exact h1
   ·have:bG n=true:=by
     cases hb:bG n
     ·exact absurd (.inr hb) hc
     ·rfl
    simp only[List.all_cons,h2,this,Bool.and_true]
theorem zik(ns:List aI)(ha:∀i,i<ns.length->aV (dK ns i)<=(aQ ns i).length)(hb:ns.all bG=true):∀k,k<=ns.length->Eh ns []=Eh (ns.drop k) (fW ns k)
 |0,_=>rfl
 |k+1,hk=>by
  rw[zik ns ha hb k (by omega),znJ ns k (by omega) (fW ns k) _ rfl,ab]
  ·rfl
  ·have h1:=ha k (by omega);rintro (h|h)
   ·rw[P9]at h;unfold dK at h1;omega
   ·have:bG (ns.getD k .zero)=true:=by
     have:=qQ.1 hb (ns.getD k .zero) (by
      rw[bI,bE (show k<ns.length by omega)];exact gy _)
     exact this
    rw[h]at this;cases this
theorem zmA(ns:List aI)(hk:kP ns=true)(ha:∀i,i<ns.length->aV (dK ns i)<=(aQ ns i).length)(hb:ns.all bG=true):0<ns.length/\zsD ns=some (fh ns (ns.length-1)):=by
 have h1:=zik ns ha hb ns.length (ax _);rw[Em (ax _),Eh]at h1;have h2:=(zij ns [] _ h1).1;have h3:(fW ns ns.length).length=1:=by
  unfold kP at hk;have:=eq_of_beq hk;simp only[n4]at h2;rw[h2]at this;exact Option.some.inj this
 have pX:0<ns.length:=by
  rcases JS ns.length with h0|h0
  ·rw[h0]at h3;simp[fW]at h3
  ·exact h0
 refine⟨pX,?_⟩;obtain⟨m,hm⟩:∃m,ns.length=m+1:=⟨ns.length-1,by omega⟩;rw[hm]at h1 h3 ⊢;unfold zsD;rw[h1];have h4:=Uw ns (m+1);have h5:aQ ns (m+1)=[m]:=by
  have hl:=P9 ns (m+1);rw[h3]at hl;rw[aQ]at hl ⊢
  match (aQ ns m).take ((aQ ns m).length-aV (dK ns m)),hl with
  |[],_=>rfl
  |_::_,hl=>simp at hl
 rw[h5]at h4;rw[<-h4]
 rfl
theorem Ed(ns:List aI)(ha:∀i,i<ns.length->aV (dK ns i)<=(aQ ns i).length)(hb:ns.all bG=true):∀n i,i<n->i<ns.length->1<=fh ns i/\fh ns i<=2001
 |0,_,h,_=>absurd h (dP _)
 |n+1,i,_,hi=>by
  have BW:bG (ns.getD i .zero)=true:=qQ.1 hb (ns.getD i .zero) (by
   rw[bI,bE hi];exact gy _)
  have pM:=ha i hi;have tV:∀j,j<(aQ ns i).length->1<=(fW ns i).getD j 0/\(fW ns i).getD j 0<=2001:=by
   intro j hj;rw[Uo ns i j hj];have tZ:(aQ ns i).getD j 0∈aQ ns i:=by
    rw[bI,bE hj];exact gy _
   have hlt:=Qr ns i _ tZ;exact Ed ns ha hb n _ (by omega) (by omega)
  unfold fh;generalize oD:ns.getD i .zero=nd at *;obtain⟨k,rs,mn,mx,g⟩:=nd;have kj:dK ns i=k:=by unfold dK;rw[oD]
  rw[kj]at pM ⊢;have zw3:=zmo (fW ns i) ((fW ns i).length-aV k);have hl:=P9 ns i;rcases zkw BW with rfl|rfl|rfl|rfl|rfl
  ·simp[qg]
  ·have e:=zmp (fW ns i) ((fW ns i).length-aV 2);have a2:aV 2=2:=rfl;unfold qg;rw[ab (by simp),ae (by simp),e.1,e.2];have p:=tV ((fW ns i).length-aV 2) (by omega);have q:=tV ((fW ns i).length-aV 2+1) (by omega);exact zlj (by omega)
  ·have e:=zmp (fW ns i) ((fW ns i).length-aV 3);have a2:aV 3=2:=rfl;unfold qg;rw[ab (by simp),ae (by simp),e.1,e.2];have p:=tV ((fW ns i).length-aV 3) (by omega);have q:=tV ((fW ns i).length-aV 3+1) (by omega);exact zlj (by omega)
  ·have a2:aV 4=1:=rfl;unfold qg;rw[ab (by simp),ab (by simp),ae (by simp),zw3];have p:=tV ((fW ns i).length-aV 4) (by omega);have c:=zjS (zkv BW).2.1;have hm:1*1<=(fW ns i).getD ((fW ns i).length-aV 4) 0*oM mn mx:=xH p.1 c.1 (by omega) (by omega);exact zlj (by simpa using hm)
  ·have a2:aV 5=1:=rfl;unfold qg;rw[ab (by simp),ab (by simp),ab (by simp),zw3];exact tV ((fW ns i).length-aV 5) (by omega)
section
variable {ns:List aI}{k:Nat}
def tR(rs:List (Int×Int))(c:Nat):Bool:=rs.any λr=>decide (r.1<=c/\(c:Int)<=r.2)
def Mu:Pt:=.set λ_=>false
def lB(n:aI)(ops:List Pt):Pt:=
 if n.kind=1 then .set (tR n.set)
 else if n.kind=2 then .seq (ops.getD 0 Mu) (ops.getD 1 Mu)
 else if n.kind=3 then .eA (ops.getD 0 Mu) (ops.getD 1 Mu)
 else if n.kind=4 then .jX (ops.getD 0 Mu) n.min n.max
 else .aH (ops.getD 0 Mu) n.group
def Qu(st:List Pt)(n:aI):List Pt:=st.take (st.length-aV n.kind)++[lB n (st.drop (st.length-aV n.kind))]
def jJ(ns:List aI):Nat->List Pt
 |0=>[]
 |i+1=>Qu (jJ ns i) (ns.getD i .zero)
def cd(ns:List aI)(i:Nat):Pt:=lB (ns.getD i .zero) ((jJ ns i).drop ((jJ ns i).length-aV (dK ns i)))
theorem Um(ns:List aI):∀i,(aQ ns i).map (cd ns)=jJ ns i
 |0=>rfl
 |i+1=>by
  have ih:=Um ns i;have hl:(aQ ns i).length=(jJ ns i).length:=by rw[<-ih,jK]
  rw[aQ,jJ,Qu,rR,List.map_take,ih,hl]
  rfl
theorem zjC(ns:List aI)(i:Nat):(jJ ns i).length=(aQ ns i).length:=by rw[<-Um,jK]
theorem zeN(ns:List aI)(k j:Nat)(hj:j<(aQ ns k).length):(aQ ns k).getD j 0<k:=Qr ns k _ (by
 rw[bI,bE hj];exact gy _)
theorem zkZ(ha:aV (dK ns k)=2)(hl:2<=(aQ ns k).length):∃x y:Nat,pD ns k=x/\vy ns k=y/\x<k/\y<k/\cd ns k=lB (ns.getD k .zero) [cd ns x,cd ns y]:=by
 refine⟨(aQ ns k).getD ((aQ ns k).length-2) 0,(aQ ns k).getD ((aQ ns k).length-1) 0,?_,?_,zeN _ _ _ (by omega),zeN _ _ _ (by omega),?_⟩
 ·rw[pD,ha,ab (by omega)]
 ·rw[vy,ae ha]
 ·have hw:=zjC ns k;unfold cd;rw[ha]
  congr 1
  rw[<-Um ns k,jK];apply tz;intro i;rw[En,vE]
  match i with
  |0=>simp[List.getD_eq_getElem?_getD,List.getElem?_eq_getElem (show (aQ ns k).length-2<(aQ ns k).length by omega),cd]
  |1=>rw[show (aQ ns k).length-2+1=(aQ ns k).length-1 by omega];simp[List.getD_eq_getElem?_getD,List.getElem?_eq_getElem (show (aQ ns k).length-1<(aQ ns k).length by omega),cd]
  |i+2=>rw[qR (by omega)];simp
theorem zkY(ha:aV (dK ns k)=1)(hl:1<=(aQ ns k).length):∃x:Nat,pD ns k=x/\x<k/\cd ns k=lB (ns.getD k .zero) [cd ns x]:=by
 refine⟨(aQ ns k).getD ((aQ ns k).length-1) 0,?_,zeN _ _ _ (by omega),?_⟩
 ·rw[pD,ha,ab (by omega)]
 ·unfold cd;rw[ha]
  congr 1
  rw[<-Um ns k,jK];apply tz;intro i;rw[En,vE]
  match i with
  |0=>simp[List.getD_eq_getElem?_getD,List.getElem?_eq_getElem (show (aQ ns k).length-1<(aQ ns k).length by omega),cd]
  |i+1=>rw[qR (by omega)];simp
end
def gC:Pt->Int
 |.set _=>1
 |.seq l r=>oh (gC l+gC r)
 |.eA l r=>oh (gC l+gC r)
 |.jX b mn mx=>oh (gC b*oM mn mx)
 |.aH b _=>gC b

section
variable {a b:List Nat}{i n:Nat}{u:Nat -> Bool}
inductive GT where
 |s (p:Nat) (f:Nat->Bool)
 |q (a b:GT)
 |o (a b:GT)
 |st (a:GT)
 |e
def GT.ga:GT->GA
 |.s _ f=>.one f
 |.q a b=>a.ga.seq b.ga
 |.o a b=>a.ga.eA b.ga
 |.st a=>a.ga.star
 |.e=>.yo true
def GT.cR:GT->List Nat
 |.s p _=>[p]
 |.q a b=>a.cR++b.cR
 |.o a b=>a.cR++b.cR
 |.st a=>a.cR
 |.e=>[]
theorem GT.len:∀T:GT,T.cR.length=T.ga.n
 |.s _ _=>rfl
 |.q a b=>by show (a.cR++b.cR).length=a.ga.n+b.ga.n;rw[a6,a.len,b.len]
 |.o a b=>by show (a.cR++b.cR).length=a.ga.n+b.ga.n;rw[a6,a.len,b.len]
 |.st a=>a.len
 |.e=>rfl
def GT.at(T:GT)(i:Nat):Nat:=T.cR.getD i 0
theorem zoX(h:i<a.length):(a++b).getD i 0=a.getD i 0:=by simp[List.getD,List.getElem?_append_left h]
theorem zoW(hn:a.length=n)(h:n<=i):(a++b).getD i 0=b.getD (i-n) 0:=by
 subst hn;simp[List.getD,List.getElem?_append_right h]
def ii(m:Nat->Bool):GT->Bool
 |.s p _=>m p
 |.q a b=>ii m b || (ii m a&&b.ga.fy)
 |.o a b=>ii m a || ii m b
 |.st a=>ii m a
 |.e=>false
def dr(m:Nat->Bool)(c:Nat):GT->Bool->Nat->Bool
 |.s p f,g,x=>(x==p)&&(g&&f c)
 |.q a b,g,x=>dr m c a g x || dr m c b ((g&&a.ga.fy) || ii m a) x
 |.o a b,g,x=>dr m c a g x || dr m c b g x
 |.st a,g,x=>dr m c a (g || ii m a) x
 |.e,_,_=>false
theorem zmU{a b:GT}{P:Nat->Prop}{v:Nat->Bool}(hu:∀i,u i=true->i<a.ga.n):(∃i,(u i || (decide (a.ga.n<=i)&&v (i-a.ga.n)))=true/\P ((a.cR++b.cR).getD i 0))↔(∃i,u i=true/\P (a.at i))\/∃i,v i=true/\P (b.at i):=by
 simp only[np,fQ,pF];constructor
 ·rintro ⟨i,h|⟨h0,h⟩,k⟩
  ·rw[zoX (by rw[a.len];exact hu i h)]at k;exact .inl ⟨i,h,k⟩
  ·rw[zoW a.len h0]at k;exact .inr ⟨_,h,k⟩
 ·rintro (⟨i,h,k⟩|⟨i,h,k⟩)
  ·exact⟨i,.inl h,by rw[zoX (by rw[a.len];exact hu i h)];exact k⟩
  ·exact⟨a.ga.n+i,.inr ⟨by omega,by rw[lW];exact h⟩,by rw[zoW a.len (by omega),lW];exact k⟩
theorem Ck(m:Nat->Bool):∀T:GT,ii m T=true↔∃i,T.ga.kM i=true/\m (T.at i)=true
 |.s p f=>by
  show m p=true↔∃i,(i==0)=true/\m ([p].getD i 0)=true;exact⟨λh=>⟨0,rfl,h⟩,λ⟨i,h,k⟩=>by obtain rfl:i=0:=(by simpa using h);exact k⟩
 |.q a b=>by
  show (ii m b || (ii m a&&b.ga.fy))=true↔∃i,((decide (a.ga.n<=i)&&b.ga.kM (i-a.ga.n)) || (b.ga.fy&&a.ga.kM i))=true/\m ((a.cR++b.cR).getD i 0)=true;have:=zmU (a:=a) (b:=b) (P:=λx=>m x=true) (u:=λi=>b.ga.fy&&a.ga.kM i) (v:=b.ga.kM) (λi h=>a.ga.ug i (by simp only[fQ]at h;exact h.2));simp only[Bool.or_comm (decide _&&_) _];rw[this,np,fQ,Ck m a,Ck m b];constructor
  ·rintro (h|⟨⟨i,h,k⟩,e⟩)
   ·exact .inr h
   ·exact .inl ⟨i,by rw[e,h];rfl,k⟩
  ·rintro (⟨i,h,k⟩|h)
   ·rw[fQ]at h;exact .inr ⟨⟨i,h.2,k⟩,h.1⟩
   ·exact .inl h
 |.o a b=>by
  show (ii m a || ii m b)=true↔∃i,(a.ga.kM i || (decide (a.ga.n<=i)&&b.ga.kM (i-a.ga.n)))=true/\m ((a.cR++b.cR).getD i 0)=true;rw[zmU (a:=a) (b:=b) (P:=λx=>m x=true) (u:=a.ga.kM) (v:=b.ga.kM) a.ga.ug,np,Ck m a,Ck m b]
 |.st a=>Ck m a
 |.e=>by
  show false=true↔∃i,false=true/\_;simp
def ShP(m:Nat->Bool)(c:Nat)(T:GT)(g:Bool)(x:Nat):Prop:=∃j,T.ga.st j c=true/\x=T.at j/\((g=true/\T.ga.fst j=true)\/∃i,m (T.at i)=true/\T.ga.ij i j=true)
theorem xC{a b:GT}(h:i<a.ga.n):(a.cR++b.cR).getD i 0=a.at i:=zoX (by rw[a.len];exact h)
theorem Ba{a b:GT}(i:Nat):(a.cR++b.cR).getD (a.ga.n+i) 0=b.at i:=by rw[zoW a.len (by omega),lW];rfl
theorem Gk(hu:∀i,u i=true->i<n):u (n+i)=false:=by
 cases h:u (n+i)
 ·rfl
 ·have:=hu _ h;omega
theorem Jw(n j:Nat):j<n\/∃k,j=n+k:=by
 rcases jP j n with h|h
 ·exact .inl h
 ·exact .inr ⟨j-n,by omega⟩
theorem JH(m:Nat->Bool)(c:Nat):∀(T:GT) (g:Bool) (x:Nat),dr m c T g x=true↔ShP m c T g x
 |.s p f,g,x=>by
  show ((x==p)&&(g&&f c))=true↔∃j,((j==0)&&f c)=true/\x=[p].getD j 0/\((g=true/\(j==0)=true)\/∃i,m ([p].getD i 0)=true/\false=true);simp only[fQ,beq_iff_eq,Bool.false_eq_true,and_false,exists_false,or_false];constructor
  ·rintro ⟨rfl,hg,hc⟩;exact⟨0,⟨rfl,hc⟩,rfl,hg,rfl⟩
  ·rintro ⟨j,⟨rfl,hc⟩,hx,hg,-⟩;exact⟨hx,hg,hc⟩
 |.q a b,g,x=>by
  show (dr m c a g x || dr m c b ((g&&a.ga.fy) || ii m a) x)=true↔_;rw[np,JH m c a,JH m c b];constructor
  ·rintro (⟨j,h1,h2,h3⟩|⟨j,h1,h2,h3⟩)
   ·have hj:=a.ga.qH j c h1;refine⟨j,?_,?_,?_⟩
    ·show (a.ga.st j c || _)=true;rw[h1,Bc]
    ·show x=(a.cR++b.cR).getD j 0;rw[xC hj];exact h2
    ·rcases h3 with ⟨e1,e2⟩|⟨i,e1,e2⟩
     ·left;refine⟨e1,?_⟩;show (a.ga.fst j || _)=true;rw[e2,Bc]
     ·right;refine⟨i,?_,?_⟩
      ·show m ((a.cR++b.cR).getD i 0)=true;rw[xC (a.ga.tM i j e2).1];exact e1
      ·show (a.ga.ij i j || _ || _)=true;rw[e2,Bc,Bc]
   ·have hj:=b.ga.qH j c h1;refine⟨a.ga.n+j,?_,?_,?_⟩
    ·show (a.ga.st (a.ga.n+j) c || (decide (a.ga.n<=a.ga.n+j)&&b.ga.st (a.ga.n+j-a.ga.n) c))=true;rw[lW,h1];simp
    ·show x=(a.cR++b.cR).getD (a.ga.n+j) 0;rw[Ba];exact h2
    ·rcases h3 with ⟨e1,e2⟩|⟨i,e1,e2⟩
     ·rw[np,fQ,Ck]at e1;rcases e1 with ⟨e1,e3⟩|⟨i,e1,e3⟩
      ·left;refine⟨e1,?_⟩
       show (a.ga.fst (a.ga.n+j) || (a.ga.fy&&(decide (a.ga.n<=a.ga.n+j)&&b.ga.fst (a.ga.n+j-a.ga.n))))=true;rw[lW,e2,e3];simp
      ·right;refine⟨i,?_,?_⟩
       ·show m ((a.cR++b.cR).getD i 0)=true;rw[xC (a.ga.ug i e1)];exact e3
       ·show (a.ga.ij i (a.ga.n+j) || (decide (a.ga.n<=i)&&(decide (a.ga.n<=a.ga.n+j)&&b.ga.ij (i-a.ga.n) (a.ga.n+j-a.ga.n))) || (a.ga.kM i&&(decide (a.ga.n<=a.ga.n+j)&&b.ga.fst (a.ga.n+j-a.ga.n))))=true;rw[e1,lW,e2];simp
     ·right;refine⟨a.ga.n+i,?_,?_⟩
      ·show m ((a.cR++b.cR).getD (a.ga.n+i) 0)=true;rw[Ba];exact e1
      ·show (a.ga.ij (a.ga.n+i) (a.ga.n+j) || (decide (a.ga.n<=a.ga.n+i)&&(decide (a.ga.n<=a.ga.n+j)&&b.ga.ij (a.ga.n+i-a.ga.n) (a.ga.n+j-a.ga.n))) || _)=true;rw[lW,lW,e2];simp
  ·rintro ⟨j,h1,h2,h3⟩;replace h1:(a.ga.st j c || (decide (a.ga.n<=j)&&b.ga.st (j-a.ga.n) c))=true:=h1;replace h2:x=(a.cR++b.cR).getD j 0:=h2;replace h3:(g=true/\(a.ga.fst j || (a.ga.fy&&(decide (a.ga.n<=j)&&b.ga.fst (j-a.ga.n))))=true)\/∃i,m ((a.cR++b.cR).getD i 0)=true/\(a.ga.ij i j || (decide (a.ga.n<=i)&&(decide (a.ga.n<=j)&&b.ga.ij (i-a.ga.n) (j-a.ga.n))) || (a.ga.kM i&&(decide (a.ga.n<=j)&&b.ga.fst (j-a.ga.n))))=true:=h3;rcases Jw a.ga.n j with hj|⟨k,rfl⟩
   ·left
    simp only[show ¬a.ga.n<=j from by omega,decide_false,Bool.false_and,Bool.and_false,Bool.or_false]at h1 h3;rw[xC hj]at h2;refine⟨j,h1,h2,h3.imp id ?_⟩;rintro ⟨i,e1,e2⟩;rw[xC (a.ga.tM i j e2).1]at e1;exact⟨i,e1,e2⟩
   ·right
    have z1:a.ga.st (a.ga.n+k) c=false:=Gk (u:=λi=>a.ga.st i c) λi h=>a.ga.qH i c h
    have z2:a.ga.fst (a.ga.n+k)=false:=Gk a.ga.yq;have z3:∀i,a.ga.ij i (a.ga.n+k)=false:=λi=>Gk (u:=a.ga.ij i) λj h=>(a.ga.tM i j h).2
    simp only[lW,z1,z2,z3,Bool.false_or,show a.ga.n<=a.ga.n+k from by omega,decide_true,Cu,fQ,np,pF]at h1 h3;rw[Ba]at h2;refine⟨k,h1,h2,?_⟩;rcases h3 with ⟨e1,e2,e3⟩|⟨i,e1,⟨e2,e3⟩|⟨e2,e3⟩⟩
    ·exact .inl ⟨by rw[e1,e2];rfl,e3⟩
    ·obtain⟨t,rfl⟩:∃t,i=a.ga.n+t:=⟨i-a.ga.n,by omega⟩;rw[Ba]at e1;rw[lW]at e3;exact .inr ⟨t,e1,e3⟩
    ·refine .inl ⟨?_,e3⟩;rw[xC (a.ga.ug i e2)]at e1;rw[(Ck m a).2 ⟨i,e2,e1⟩,Bool.or_true]
 |.o a b,g,x=>by
  show (dr m c a g x || dr m c b g x)=true↔_;rw[np,JH m c a,JH m c b];constructor
  ·rintro (⟨j,h1,h2,h3⟩|⟨j,h1,h2,h3⟩)
   ·have hj:=a.ga.qH j c h1;refine⟨j,?_,?_,?_⟩
    ·show (a.ga.st j c || _)=true;rw[h1,Bc]
    ·show x=(a.cR++b.cR).getD j 0;rw[xC hj];exact h2
    ·rcases h3 with ⟨e1,e2⟩|⟨i,e1,e2⟩
     ·left;refine⟨e1,?_⟩;show (a.ga.fst j || _)=true;rw[e2,Bc]
     ·right;refine⟨i,?_,?_⟩
      ·show m ((a.cR++b.cR).getD i 0)=true;rw[xC (a.ga.tM i j e2).1];exact e1
      ·show (a.ga.ij i j || _)=true;rw[e2,Bc]
   ·have hj:=b.ga.qH j c h1;refine⟨a.ga.n+j,?_,?_,?_⟩
    ·show (a.ga.st (a.ga.n+j) c || (decide (a.ga.n<=a.ga.n+j)&&b.ga.st (a.ga.n+j-a.ga.n) c))=true;rw[lW,h1];simp
    ·show x=(a.cR++b.cR).getD (a.ga.n+j) 0;rw[Ba];exact h2
    ·rcases h3 with ⟨e1,e2⟩|⟨i,e1,e2⟩
     ·left;refine⟨e1,?_⟩
      show (a.ga.fst (a.ga.n+j) || (decide (a.ga.n<=a.ga.n+j)&&b.ga.fst (a.ga.n+j-a.ga.n)))=true;rw[lW,e2];simp
     ·right;refine⟨a.ga.n+i,?_,?_⟩
      ·show m ((a.cR++b.cR).getD (a.ga.n+i) 0)=true;rw[Ba];exact e1
      ·show (a.ga.ij (a.ga.n+i) (a.ga.n+j) || (decide (a.ga.n<=a.ga.n+i)&&(decide (a.ga.n<=a.ga.n+j)&&b.ga.ij (a.ga.n+i-a.ga.n) (a.ga.n+j-a.ga.n))))=true;rw[lW,lW,e2];simp
  ·rintro ⟨j,h1,h2,h3⟩;replace h1:(a.ga.st j c || (decide (a.ga.n<=j)&&b.ga.st (j-a.ga.n) c))=true:=h1;replace h2:x=(a.cR++b.cR).getD j 0:=h2;replace h3:(g=true/\(a.ga.fst j || (decide (a.ga.n<=j)&&b.ga.fst (j-a.ga.n)))=true)\/∃i,m ((a.cR++b.cR).getD i 0)=true/\(a.ga.ij i j || (decide (a.ga.n<=i)&&(decide (a.ga.n<=j)&&b.ga.ij (i-a.ga.n) (j-a.ga.n))))=true:=h3;rcases Jw a.ga.n j with hj|⟨k,rfl⟩
   ·left
    simp only[show ¬a.ga.n<=j from by omega,decide_false,Bool.false_and,Bool.and_false,Bool.or_false]at h1 h3;rw[xC hj]at h2;refine⟨j,h1,h2,h3.imp id ?_⟩;rintro ⟨i,e1,e2⟩;rw[xC (a.ga.tM i j e2).1]at e1;exact⟨i,e1,e2⟩
   ·right
    have z1:a.ga.st (a.ga.n+k) c=false:=Gk (u:=λi=>a.ga.st i c) λi h=>a.ga.qH i c h
    have z2:a.ga.fst (a.ga.n+k)=false:=Gk a.ga.yq;have z3:∀i,a.ga.ij i (a.ga.n+k)=false:=λi=>Gk (u:=a.ga.ij i) λj h=>(a.ga.tM i j h).2
    simp only[lW,z1,z2,z3,Bool.false_or,show a.ga.n<=a.ga.n+k from by omega,decide_true,Cu,fQ,pF]at h1 h3;rw[Ba]at h2;refine⟨k,h1,h2,?_⟩;rcases h3 with e1|⟨i,e1,e2,e3⟩
    ·exact .inl e1
    ·obtain⟨t,rfl⟩:∃t,i=a.ga.n+t:=⟨i-a.ga.n,by omega⟩;rw[Ba]at e1;rw[lW]at e3;exact .inr ⟨t,e1,e3⟩
 |.st a,g,x=>by
  show dr m c a (g || ii m a) x=true↔_;rw[JH m c a];constructor
  ·rintro ⟨j,h1,h2,h3⟩;refine⟨j,h1,h2,?_⟩;rcases h3 with ⟨e1,e2⟩|⟨i,e1,e2⟩
   ·rw[np,Ck]at e1;rcases e1 with e1|⟨i,e1,e3⟩
    ·exact .inl ⟨e1,e2⟩
    ·refine .inr ⟨i,e3,?_⟩;show (a.ga.ij i j || (a.ga.kM i&&a.ga.fst j))=true;rw[e1,e2];simp
   ·refine .inr ⟨i,e1,?_⟩;show (a.ga.ij i j || _)=true;rw[e2,Bc]
  ·rintro ⟨j,h1,h2,h3⟩;refine⟨j,h1,h2,?_⟩;rcases h3 with ⟨e1,e2⟩|⟨i,e1,e2⟩
   ·exact .inl ⟨by rw[e1,Bc],e2⟩
   ·replace e2:(a.ga.ij i j || (a.ga.kM i&&a.ga.fst j))=true:=e2;rw[np,fQ]at e2;rcases e2 with e2|⟨e2,e3⟩
    ·exact .inr ⟨i,e1,e2⟩
    ·exact .inl ⟨by rw[(Ck m a).2 ⟨i,e2,e1⟩,Bool.or_true],e3⟩
 |.e,g,x=>by
  show false=true↔∃j,false=true/\_;simp
end
theorem Try.zyc:(Try.prog.info? 4).map (λi=>(i.zero,i.size,i.bytes))=some (some (.bool false),1,1):=by kernel_rfl
theorem zoQ(rs:List (Int×Int))(c k:Nat)(hk:k<rs.length)(a b:Int)(h:rs.getD k (0,0)=(a,b)):tR (rs.drop k) c=(aT c a b || tR (rs.drop (k+1)) c):=by
 rw[JP hk];have:rs[k]=(a,b):=by rw[<-h];simp[List.getD,hk]
 unfold tR;rw[List.any_cons,this]
 rfl
theorem zrP{lo:Nat}(v:Value)(rs:List (Int×Int))(c:Nat)(w:World)(hs:nk lo w v rs)(gQ:c<256):
  Calls Try.prog 55 #[v,.int .u8 c] w λe w'=>e=.returned (.bool (tR rs c))/\Below w.heap.size w w':=by
 obtain⟨ao,cap,rfl,hm,hc⟩:=hs;have sB:(0:Int)<=(c:Int):=by omega
 have nK:(c:Int)<256:=by omega
 go_enter Try.func55,Try.ntmps55
 go_wp2
 go_loopw [9] (λi wr=>∃k:Nat,k<=rs.length/\i=.int .i64 k/\Hid (tR rs c=tR (rs.drop k) c)/\Below w.heap.size w wr)
  (λi _=>rs.length-(intOf i).toNat)
 case atStart=>exact⟨0,bH _,rfl,rfl,Below.refl _ _⟩
 case round=>
  obtain⟨k,hk,rfl,HS,hb⟩:=hrel
  by_cases hlt:k<rs.length
  ·obtain⟨b,o,x,y,rfl,Hn,cQ,c0,c1⟩:=hc.elem hb hlt;have gP:Below w.heap.size w (wr.alloc (.cells #[.int .i64 x,.int .i64 y] 127)):=hb.alloc hb.size _;have HD:Hid (tR (rs.drop k) c=(aT c x y || tR (rs.drop (k+1)) c)):=zoQ rs c k hlt x y Hn.out
   go_wp2_with fail
   refine(lp _ _ _ _).mono ?_;rintro e w2 ⟨rfl,rfl⟩;cases hq:aT c x y
   ·go_wp2
    go_roundw
    case rel=>exact⟨k+1,by omega,by go_num,by show _=_;rw[HS.out,HD.out,hq,Bool.false_or],gP⟩
    case measure=>simp[intOf];omega
   ·go_wp2;go_ret;exact⟨dD (by rw[HS.out,HD.out,hq,Bc]),gP⟩
  ·go_wp2;go_ret;exact⟨dD (by rw[HS.out,Em (by omega)];rfl),hb⟩
theorem zil(N:Nat):(madeCells (Value.bool false).cells (N*1)).toList=List.replicate N (.bool false):=by
 apply List.ext_getElem
 ·simp[madeCells]
 ·intro i h1 h2;simp[madeCells,Value.cells,Nat.mod_one]
end Go.Proofs.Ytfajjdgkiilhfaa
