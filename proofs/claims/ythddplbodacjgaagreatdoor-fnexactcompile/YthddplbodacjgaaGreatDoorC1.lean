import Derived.Test.YthddplbodacjgaaGreatDoorC0
import Derived.Deep.RegionHeld3
import Derived.Deep.DrawnRows
import Derived.Deep.AppendLies
namespace Go.Proofs.YthddplbodacjgaaGreatDoor
set_option maxHeartbeats 400000
set_option maxRecDepth 100000
section
structure GA where
 n:Nat
 emp:Bool
 fst:Nat->Bool
 lst:Nat->Bool
 fol:Nat->Nat->Bool
 st:Nat->Nat->Bool
 fstB:∀i,fst i=true->i<n
 lstB:∀i,lst i=true->i<n
 folB:∀i j,fol i j=true->i<n/\j<n
 stB:∀i c,st i c=true->i<n
theorem GA.same{x y:GA}(h1:x.n=y.n)(h2:x.emp=y.emp)(h3:∀i,x.fst i=y.fst i)(h4:∀i,x.lst i=y.lst i)(h5:∀i j,x.fol i j=y.fol i j)(h6:∀i c,x.st i c=y.st i c):x=y:=by
 obtain⟨n,e,f,l,o,s,b1,b2,b3,b4⟩:=x;obtain⟨n',e',f',l',o',s',b1',b2',b3',b4'⟩:=y;have e1:n=n':=h1;have e2:e=e':=h2;have e3:f=f':=funext h3;have e4:l=l':=funext h4;have e5:o=o':=funext fun i=>funext (h5 i)
 have e6:s=s':=funext fun i=>funext (h6 i)
 subst e1;subst e2;subst e3;subst e4;subst e5;subst e6
 rfl
def GA.eps(b:Bool):GA:=⟨0,b,fun _=>false,fun _=>false,fun _ _=>false,fun _ _=>false,fun _ h=>by simp at h,fun _ h=>by simp at h,fun _ _ h=>by simp at h,fun _ _ h=>by simp at h⟩
def GA.one(f:Nat->Bool):GA:=⟨1,false,fun i=>i==0,fun i=>i==0,fun _ _=>false,fun i c=>i==0&&f c,fun i h=>by simp at h;omega,fun i h=>by simp at h;omega,fun _ _ h=>by simp at h,fun i c h=>by simp at h;omega⟩
def GA.seq(x y:GA):GA where
 n:=x.n+y.n
 emp:=x.emp&&y.emp
 fst i:=x.fst i || (x.emp&&(decide (x.n<=i)&&y.fst (i-x.n)))
 lst i:=(decide (x.n<=i)&&y.lst (i-x.n)) || (y.emp&&x.lst i)
 fol i j:=x.fol i j || (decide (x.n<=i)&&(decide (x.n<=j)&&y.fol (i-x.n) (j-x.n))) || (x.lst i&&(decide (x.n<=j)&&y.fst (j-x.n)))
 st i c:=x.st i c || (decide (x.n<=i)&&y.st (i-x.n) c)
 fstB i h:=by
  simp only[ztw,ztt,zuP] at h;rcases h with h|⟨-,h0,h⟩
  ·have:=x.fstB _ h;omega
  ·have:=y.fstB _ h;omega
 lstB i h:=by
  simp only[ztw,ztt,zuP] at h;rcases h with ⟨h0,h⟩|⟨-,h⟩
  ·have:=y.lstB _ h;omega
  ·have:=x.lstB _ h;omega
 folB i j h:=by
  simp only[ztw,ztt,zuP] at h;rcases h with (h|⟨h0,h1,h⟩)|⟨h,h0,h1⟩
  ·have:=x.folB _ _ h;omega
  ·have:=y.folB _ _ h;omega
  ·have:=x.lstB _ h;have:=y.fstB _ h1;omega
 stB i c h:=by
  simp only[ztw,ztt,zuP] at h;rcases h with h|⟨h0,h⟩
  ·have:=x.stB _ _ h;omega
  ·have:=y.stB _ _ h;omega
def GA.alt(x y:GA):GA where
 n:=x.n+y.n
 emp:=x.emp || y.emp
 fst i:=x.fst i || (decide (x.n<=i)&&y.fst (i-x.n))
 lst i:=x.lst i || (decide (x.n<=i)&&y.lst (i-x.n))
 fol i j:=x.fol i j || (decide (x.n<=i)&&(decide (x.n<=j)&&y.fol (i-x.n) (j-x.n)))
 st i c:=x.st i c || (decide (x.n<=i)&&y.st (i-x.n) c)
 fstB i h:=by
  simp only[ztw,ztt,zuP] at h;rcases h with h|⟨h0,h⟩
  ·have:=x.fstB _ h;omega
  ·have:=y.fstB _ h;omega
 lstB i h:=by
  simp only[ztw,ztt,zuP] at h;rcases h with h|⟨h0,h⟩
  ·have:=x.lstB _ h;omega
  ·have:=y.lstB _ h;omega
 folB i j h:=by
  simp only[ztw,ztt,zuP] at h;rcases h with h|⟨h0,h1,h⟩
  ·have:=x.folB _ _ h;omega
  ·have:=y.folB _ _ h;omega
 stB i c h:=by
  simp only[ztw,ztt,zuP] at h;rcases h with h|⟨h0,h⟩
  ·have:=x.stB _ _ h;omega
  ·have:=y.stB _ _ h;omega
def GA.star(x:GA):GA where
 n:=x.n
 emp:=true
 fst:=x.fst
 lst:=x.lst
 fol i j:=x.fol i j || (x.lst i&&x.fst j)
 st:=x.st
 fstB:=x.fstB
 lstB:=x.lstB
 folB i j h:=by
  simp only[ztw,ztt] at h;rcases h with h|⟨h,h1⟩
  ·exact x.folB _ _ h
  ·exact⟨x.lstB _ h,x.fstB _ h1⟩
 stB:=x.stB
def GA.opt(x:GA):GA:={x with emp:=true}
theorem zhS(x:GA):x.seq (.eps true)=x:=by
 refine GA.same (by simp[GA.seq,GA.eps]) (by simp[GA.seq,GA.eps]) (fun i=>?_) (fun i=>?_) (fun i j=>?_) (fun i c=>?_)<;>simp[GA.seq,GA.eps]
theorem zmX(x:GA):x.alt (.eps true)=x.opt:=by
 refine GA.same (by simp[GA.alt,GA.eps,GA.opt]) (by simp[GA.alt,GA.eps,GA.opt]) (fun i=>?_) (fun i=>?_) (fun i j=>?_) (fun i c=>?_)<;>simp[GA.alt,GA.eps,GA.opt]
theorem zjv(x:GA):x.star.star=x.star:=by
 refine GA.same rfl rfl (fun i=>rfl) (fun i=>rfl) (fun i j=>?_) (fun i c=>rfl);show ((x.fol i j || (x.lst i&&x.fst j)) || (x.lst i&&x.fst j))=(x.fol i j || (x.lst i&&x.fst j));rw[ztv,Bool.or_self]
theorem zkV(x:GA):x.opt.star=x.star:=rfl
theorem zkU(x:GA):x.star.opt=x.star:=rfl
theorem zmY(x:GA):x.opt.opt=x.opt:=rfl
def itr(f:GA->GA):Nat->GA->GA
 |0,x=>x
 |k+1,x=>f (itr f k x)
def repG(x:GA)(mn mx:Int):GA:=if mx=-1 then itr x.seq mn.toNat x.star else itr x.seq mn.toNat (itr (fun r=>(x.seq r).opt) (mx-mn).toNat (.eps true))
def unf:Pt->GA
 |.set f=>.one f
 |.seq l r=>(unf l).seq (unf r)
 |.alt l r=>(unf l).alt (unf r)
 |.rep b mn mx=>repG (unf b) mn mx
 |.grp b _=>unf b
theorem zsv(x:GA):repG x 1 1=x:=by
 show (x.seq (.eps true))=x;exact zhS x
theorem zeD(x:GA):repG x 0 (-1)=x.star:=rfl
theorem ziP(x:GA):repG x 0 1=x.opt:=by
 show (x.seq (.eps true)).opt=x.opt;rw[zhS]
theorem zre(x:GA):repG x 0 0=.eps true:=rfl
theorem zrd(x:GA)(mn mx:Int)(h:0<mn):repG x mn mx=x.seq (repG x (mn-1) (if mx > 0 then mx-1 else mx))\/(0<=mx/\mx<mn):=by
 by_cases h1:mx=-1
 ·subst h1;left;obtain⟨k,rfl⟩:∃k:Nat,mn=k+1:=⟨(mn-1).toNat,by omega⟩;rw[zuU (by omega),show ((k:Int)+1-1)=k from by omega];unfold repG;rw[zuV rfl,zuV rfl,show ((k:Int)+1).toNat=k+1 from by omega,ztB]
  rfl
 ·by_cases h2:mn<=mx
  ·left
   obtain⟨k,rfl⟩:∃k:Nat,mn=k+1:=⟨(mn-1).toNat,by omega⟩;rw[zuV (by omega),show ((k:Int)+1-1)=k from by omega];unfold repG;rw[zuU h1,zuU (by omega),show ((k:Int)+1).toNat=k+1 from by omega,ztB,show (mx-(k+1):Int)=mx-1-k from by omega]
   rfl
  ·by_cases h3:0<=mx
   ·exact .inr ⟨h3,by omega⟩
   ·left
    obtain⟨k,rfl⟩:∃k:Nat,mn=k+1:=⟨(mn-1).toNat,by omega⟩;rw[zuU (by omega),show ((k:Int)+1-1)=k from by omega];unfold repG;rw[zuU h1,zuU h1,show ((k:Int)+1).toNat=k+1 from by omega,ztB,show (mx-(k+1):Int).toNat=0 from by omega,show (mx-k:Int).toNat=0 from by omega]
    rfl
theorem zrc(x:GA)(mx:Int)(h:0<mx):repG x 0 mx=(x.seq (repG x 0 (mx-1))).alt (.eps true):=by
 obtain⟨k,rfl⟩:∃k:Nat,mx=k+1:=⟨(mx-1).toNat,by omega⟩;rw[zmX];unfold repG;rw[zuU (by omega),zuU (by omega),show ((k:Int)+1-0).toNat=k+1 from by omega,show ((k:Int)+1-1-0).toNat=k from by omega]
 rfl
structure zja(tk:Nat->UInt8->Prop)(fol:Nat->Nat->Prop)(D:Nat->Prop)(e:Prop)(first last:Nat->Prop)(M:GA)(φ:Nat->Nat):Prop where
 inj:∀i j,i<M.n->j<M.n->φ i=φ j->i=j
 dm:∀p,D p↔∃i,i<M.n/\p=φ i
 em:e↔M.emp=true
 fs:∀p,first p↔∃i,M.fst i=true/\p=φ i
 ls:∀p,last p↔∃i,M.lst i=true/\p=φ i
 fl:∀p q,D p->(fol p q↔∃i j,M.fol i j=true/\p=φ i/\q=φ j)
 tk:∀i c,i<M.n->(tk (φ i) c↔M.st i c.toNat=true)
def zcm(tk:Nat->UInt8->Prop)(fol:Nat->Nat->Prop)(D:Nat->Prop)(e:Prop)(first last:Nat->Prop)(M:GA):Prop:=∃φ,zja tk fol D e first last M φ
section
variable {tk:Nat->UInt8->Prop} {fol:Nat->Nat->Prop} {D:Nat->Prop} {e:Prop} {first last:Nat->Prop} {M:GA}
theorem zcm.la(h:zcm tk fol D e first last M):∀p,last p->D p:=by
 obtain⟨φ,h⟩:=h;intro p hp;obtain⟨i,h1,h2⟩:=(h.ls p).1 hp;exact(h.dm p).2 ⟨i,M.lstB i h1,h2⟩
theorem zcm.congr{fol':Nat->Nat->Prop}(h:zcm tk fol D e first last M)(he:∀p q,D p->(fol' p q↔fol p q)):zcm tk fol' D e first last M:=by
 obtain⟨φ,h⟩:=h;exact⟨φ,h.inj,h.dm,h.em,h.fs,h.ls,fun p q hp=>(he p q hp).trans (h.fl p q hp),h.tk⟩
theorem zcm.words{N:GA}(h:zcm tk fol D e first last M)(hl:M=N):zcm tk fol D e first last N:=hl ▸ h
theorem zcm.opt(h:zcm tk fol D e first last M):zcm tk fol D True first last M.opt:=by
 obtain⟨φ,h⟩:=h;exact⟨φ,h.inj,h.dm,⟨fun _=>rfl,fun _=>trivial⟩,h.fs,h.ls,h.fl,h.tk⟩
theorem zcm.dom{D':Nat->Prop}{e':Prop}{first' last':Nat->Prop}(h:zcm tk fol D e first last M)(hd:∀p,D p↔D' p)(he:e↔e')(h1:∀p,first p↔first' p)(h2:∀p,last p↔last' p):zcm tk fol D' e' first' last' M:=by
 obtain rfl:D=D':=funext fun p=>propext (hd p)
 obtain rfl:e=e':=propext he;obtain rfl:first=first':=funext fun p=>propext (h1 p)
 obtain rfl:last=last':=funext fun p=>propext (h2 p)
 exact h
theorem zmZ(tk:Nat->UInt8->Prop)(fol:Nat->Nat->Prop)(b:Bool):zcm tk fol (fun _=>False) (b=true) (fun _=>False) (fun _=>False) (.eps b):=
 ⟨id,fun i j hi=>absurd hi (by simp[GA.eps]),fun p=>⟨False.elim,fun⟨i,h,_⟩=>absurd h (by simp[GA.eps])⟩,Iff.rfl,fun p=>⟨False.elim,fun⟨i,h,_⟩=>absurd h (by simp[GA.eps])⟩,fun p=>⟨False.elim,fun⟨i,h,_⟩=>absurd h (by simp[GA.eps])⟩,fun p q hp=>hp.elim,fun i c hi=>absurd hi (by simp[GA.eps])⟩
theorem zox{f:Nat->Bool}{n:Nat}(ht:∀c,tk n c↔f c.toNat=true)(hf:∀q,¬fol n q):zcm tk fol (·= n) False (·= n) (·= n) (unf (.set f)):=by
 refine⟨fun _=>n,fun i j hi hj _=>?_,fun p=>⟨fun h=>⟨0,by simp[unf,GA.one],h⟩,fun⟨_,_,h⟩=>h⟩,⟨False.elim,fun h=>by simp[unf,GA.one] at h⟩,fun p=>⟨fun h=>⟨0,by simp[unf,GA.one],h⟩,fun⟨_,_,h⟩=>h⟩,fun p=>⟨fun h=>⟨0,by simp[unf,GA.one],h⟩,fun⟨_,_,h⟩=>h⟩,fun p q hp=>⟨fun h=>absurd h (hp ▸ hf q),fun⟨_,_,h,_⟩=>by simp[unf,GA.one] at h⟩,fun i c hi=>?_⟩
 ·have h1:i<1:=hi;have h2:j<1:=hj;omega
 ·have h1:i<1:=hi;have h0:i=0:=by omega
  subst h0;simp[unf,GA.one,ht c]
end
theorem zcm.tk{tk tk':Nat->UInt8->Prop}{fol:Nat->Nat->Prop}{D:Nat->Prop}{e:Prop}{first last:Nat->Prop}{M:GA}(h:zcm tk fol D e first last M)(he:∀p c,D p->(tk' p c↔tk p c)):zcm tk' fol D e first last M:=by
 obtain⟨φ,h⟩:=h;exact⟨φ,h.inj,h.dm,h.em,h.fs,h.ls,h.fl,fun i c hi=>(he _ c ((h.dm _).2 ⟨i,hi,rfl⟩)).trans (h.tk i c hi)⟩
def two(n:Nat)(φ ψ:Nat->Nat)(i:Nat):Nat:=if i<n then φ i else ψ (i-n)
theorem zdz{n i:Nat}{φ ψ:Nat->Nat}(h:i<n):two n φ ψ i=φ i:=zuV h
theorem zd7{n:Nat}{φ ψ:Nat->Nat}(i:Nat):two n φ ψ (n+i)=ψ i:=by unfold two;rw[zuU (by omega),show n+i-n=i from by omega]
section
variable {tk:Nat->UInt8->Prop} {fol fol':Nat->Nat->Prop} {D E:Nat->Prop} {e1 e2:Prop} {f1 l1 f2 l2:Nat->Prop} {M N:GA} {φ ψ:Nat->Nat}
theorem zpR(hx:zja tk fol D e1 f1 l1 M φ)(hy:zja tk fol E e2 f2 l2 N ψ)(dj:∀p,D p->¬E p):∀i j,i<M.n+N.n->j<M.n+N.n->two M.n φ ψ i=two M.n φ ψ j->i=j:=by
 intro i j hi hj he;rcases zuC i M.n with a|a<;>rcases zuC j M.n with b|b
 ·rw[zdz a,zdz b] at he;exact hx.inj i j a b he
 ·obtain⟨k,rfl⟩:∃k,j=M.n+k:=⟨j-M.n,by omega⟩;rw[zdz a,zd7] at he;exact absurd ((hy.dm _).2 ⟨k,by omega,he⟩) (dj _ ((hx.dm _).2 ⟨i,a,rfl⟩))
 ·obtain⟨k,rfl⟩:∃k,i=M.n+k:=⟨i-M.n,by omega⟩;rw[zdz b,zd7] at he;exact absurd ((hy.dm _).2 ⟨k,by omega,he.symm⟩) (dj _ ((hx.dm _).2 ⟨j,b,rfl⟩))
 ·obtain⟨k,rfl⟩:∃k,i=M.n+k:=⟨i-M.n,by omega⟩;obtain⟨m,rfl⟩:∃m,j=M.n+m:=⟨j-M.n,by omega⟩;rw[zd7,zd7] at he;have:=hy.inj k m (by omega) (by omega) he;omega
theorem zrP(hx:zja tk fol D e1 f1 l1 M φ)(hy:zja tk fol E e2 f2 l2 N ψ)(p:Nat):(D p\/E p)↔∃i,i<M.n+N.n/\p=two M.n φ ψ i:=by
 rw[hx.dm,hy.dm];constructor
 ·rintro (⟨i,h1,h2⟩|⟨i,h1,h2⟩)
  ·exact⟨i,by omega,by rw[zdz h1];exact h2⟩
  ·exact⟨M.n+i,by omega,by rw[zd7];exact h2⟩
 ·rintro ⟨i,h1,h2⟩;rcases zuC i M.n with a|a
  ·exact .inl ⟨i,a,by rw[zdz a] at h2;exact h2⟩
  ·obtain⟨k,rfl⟩:∃k,i=M.n+k:=⟨i-M.n,by omega⟩;exact .inr ⟨k,by omega,by rw[zd7] at h2;exact h2⟩
theorem zmC(a b:Nat->Bool)(ha:∀i,a i=true->i<M.n)(p:Nat):((∃i,a i=true/\p=φ i)\/∃i,b i=true/\p=ψ i)↔∃i,(a i=true\/(M.n<=i/\b (i-M.n)=true))/\p=two M.n φ ψ i:=by
 constructor
 ·rintro (⟨i,h1,h2⟩|⟨i,h1,h2⟩)
  ·exact⟨i,.inl h1,by rw[zdz (ha i h1)];exact h2⟩
  ·exact⟨M.n+i,.inr ⟨by omega,by rw[show M.n+i-M.n=i from by omega];exact h1⟩,by rw[zd7];exact h2⟩
 ·rintro ⟨i,h|⟨h0,h1⟩,h2⟩
  ·rw[zdz (ha i h)] at h2;exact .inl ⟨i,h,h2⟩
  ·obtain⟨k,rfl⟩:∃k,i=M.n+k:=⟨i-M.n,by omega⟩;rw[zd7] at h2;rw[show M.n+k-M.n=k from by omega] at h1;exact .inr ⟨k,h1,h2⟩
theorem zrR(hx:zja tk fol D e1 f1 l1 M φ)(hy:zja tk fol E e2 f2 l2 N ψ)(i:Nat)(c:UInt8)(hi:i<M.n+N.n):tk (two M.n φ ψ i) c↔(M.st i c.toNat || (decide (M.n<=i)&&N.st (i-M.n) c.toNat))=true:=by
 rcases zuC i M.n with a|a
 ·rw[zdz a,hx.tk i c a];simp[show ¬M.n<=i from by omega]
 ·obtain⟨k,rfl⟩:∃k,i=M.n+k:=⟨i-M.n,by omega⟩;rw[zd7,hy.tk k c (by omega)];have:M.st (M.n+k) c.toNat=false:=by
   cases hh:M.st (M.n+k) c.toNat
   ·rfl
   ·have:=M.stB _ _ hh;omega
  simp[this]
theorem zow(hx:zcm tk fol D e1 f1 l1 M)(hy:zcm tk fol E e2 f2 l2 N)(dj:∀p,D p->¬E p):zcm tk fol (fun p=>D p\/E p) (e1\/e2) (fun p=>f1 p\/f2 p) (fun p=>l1 p\/l2 p) (M.alt N):=by
 obtain⟨φ,hx⟩:=hx;obtain⟨ψ,hy⟩:=hy;refine⟨two M.n φ ψ,zpR hx hy dj,zrP hx hy,?_,fun p=>?_,fun p=>?_,fun p q hp=>?_,zrR hx hy⟩
 ·rw[hx.em,hy.em];show _↔(M.emp || N.emp)=true;rw[ztw]
 ·rw[hx.fs,hy.fs,zmC M.fst N.fst M.fstB];show _↔∃i,(M.fst i || (decide (M.n<=i)&&N.fst (i-M.n)))=true/\_;simp only[ztw,ztt,zuP]
 ·rw[hx.ls,hy.ls,zmC M.lst N.lst M.lstB];show _↔∃i,(M.lst i || (decide (M.n<=i)&&N.lst (i-M.n)))=true/\_;simp only[ztw,ztt,zuP]
 ·show _↔∃i j,(M.fol i j || (decide (M.n<=i)&&(decide (M.n<=j)&&N.fol (i-M.n) (j-M.n))))=true/\_/\_;simp only[ztw,ztt,zuP];constructor
  ·intro hf;rcases hp with hp|hp
   ·obtain⟨i,j,h1,h2,h3⟩:=(hx.fl p q hp).1 hf;have:=M.folB i j h1;exact⟨i,j,.inl h1,by rw[zdz this.1];exact h2,by rw[zdz this.2];exact h3⟩
   ·obtain⟨i,j,h1,h2,h3⟩:=(hy.fl p q hp).1 hf;exact⟨M.n+i,M.n+j,.inr ⟨by omega,by omega,by rw[show M.n+i-M.n=i from by omega,show M.n+j-M.n=j from by omega];exact h1⟩,by rw[zd7];exact h2,by rw[zd7];exact h3⟩
  ·rintro ⟨i,j,h|⟨h0,h1,h⟩,h2,h3⟩
   ·have:=M.folB i j h;rw[zdz this.1] at h2;rw[zdz this.2] at h3;exact(hx.fl p q ((hx.dm p).2 ⟨i,this.1,h2⟩)).2 ⟨i,j,h,h2,h3⟩
   ·obtain⟨k,rfl⟩:∃k,i=M.n+k:=⟨i-M.n,by omega⟩;obtain⟨m,rfl⟩:∃m,j=M.n+m:=⟨j-M.n,by omega⟩;rw[show M.n+k-M.n=k from by omega,show M.n+m-M.n=m from by omega] at h;rw[zd7] at h2 h3;exact(hy.fl p q ((hy.dm p).2 ⟨k,(N.folB _ _ h).1,h2⟩)).2 ⟨k,m,h,h2,h3⟩
theorem zoy{f l:Nat->Prop}(hx:zcm tk fol D e1 f1 l1 M)(hy:zcm tk fol E e2 f2 l2 N)(dj:∀p,D p->¬E p)
  (hfo:∀p q,D p\/E p->(fol' p q↔fol p q\/(l1 p/\f2 q))) (hf:∀p,f p↔f1 p\/(e1/\f2 p)) (hl:∀p,l p↔l2 p\/(e2/\l1 p)):zcm tk fol' (fun p=>D p\/E p) (e1/\e2) f l (M.seq N):=by
 have hx0:=hx;have hy0:=hy;obtain⟨φ,hx⟩:=hx;obtain⟨ψ,hy⟩:=hy;refine⟨two M.n φ ψ,zpR hx hy dj,zrP hx hy,?_,fun p=>?_,fun p=>?_,fun p q hp=>?_,zrR hx hy⟩
 ·rw[hx.em,hy.em];show _↔(M.emp&&N.emp)=true;rw[ztt]
 ·rw[hf,hx.em];show _↔∃i,(M.fst i || (M.emp&&(decide (M.n<=i)&&N.fst (i-M.n))))=true/\_
  by_cases he:M.emp=true
  ·rw[he,hx.fs,hy.fs];simp only[true_and,zty,ztw,ztt,zuP];exact zmC M.fst N.fst M.fstB p
  ·rw[Bool.eq_false_iff.2 he,hx.fs];simp only[Bool.false_and,ztx,Bool.false_eq_true,false_and,or_false];exact⟨fun⟨i,h1,h2⟩=>⟨i,h1,by rw[zdz (M.fstB i h1)];exact h2⟩,fun⟨i,h1,h2⟩=>⟨i,h1,by rw[zdz (M.fstB i h1)] at h2;exact h2⟩⟩
 ·rw[hl,hy.em];show _↔∃i,((decide (M.n<=i)&&N.lst (i-M.n)) || (N.emp&&M.lst i))=true/\_
  by_cases he:N.emp=true
  ·rw[he,hx.ls,hy.ls];simp only[true_and,zty,ztw,ztt,zuP];rw[Or.comm,zmC M.lst N.lst M.lstB p];exact⟨fun⟨i,h,k⟩=>⟨i,h.symm,k⟩,fun⟨i,h,k⟩=>⟨i,h.symm,k⟩⟩
  ·rw[Bool.eq_false_iff.2 he,hy.ls];simp only[Bool.false_and,ztx,Bool.false_eq_true,false_and,or_false,ztt,zuP];constructor
   ·rintro ⟨i,h1,h2⟩;exact⟨M.n+i,⟨by omega,by rw[show M.n+i-M.n=i from by omega];exact h1⟩,by rw[zd7];exact h2⟩
   ·rintro ⟨i,⟨h0,h1⟩,h2⟩;obtain⟨k,rfl⟩:∃k,i=M.n+k:=⟨i-M.n,by omega⟩;rw[zd7] at h2;rw[show M.n+k-M.n=k from by omega] at h1;exact⟨k,h1,h2⟩
 ·rw[hfo p q hp,hx.ls,hy.fs];obtain⟨θ,ha⟩:∃θ,θ=two M.n φ ψ:=⟨_,rfl⟩;show _↔∃i j,(M.fol i j || (decide (M.n<=i)&&(decide (M.n<=j)&&N.fol (i-M.n) (j-M.n))) || (M.lst i&&(decide (M.n<=j)&&N.fst (j-M.n))))=true/\_/\_;simp only[ztw,ztt,zuP];constructor
  ·rintro (hf|⟨⟨i,h1,h2⟩,j,h3,h4⟩)
   ·rcases hp with hp|hp
    ·obtain⟨i,j,h1,h2,h3⟩:=(hx.fl p q hp).1 hf;have:=M.folB i j h1;exact⟨i,j,.inl (.inl h1),by rw[zdz this.1];exact h2,by rw[zdz this.2];exact h3⟩
    ·obtain⟨i,j,h1,h2,h3⟩:=(hy.fl p q hp).1 hf;exact⟨M.n+i,M.n+j,.inl (.inr ⟨by omega,by omega,by rw[show M.n+i-M.n=i from by omega,show M.n+j-M.n=j from by omega];exact h1⟩),by rw[zd7];exact h2,by rw[zd7];exact h3⟩
   ·exact⟨i,M.n+j,.inr ⟨h1,by omega,by rw[show M.n+j-M.n=j from by omega];exact h3⟩,by rw[zdz (M.lstB i h1)];exact h2,by rw[zd7];exact h4⟩
  ·rintro ⟨i,j,(h|⟨h0,h1,h⟩)|⟨h,h0,h1⟩,h2,h3⟩
   ·have:=M.folB i j h;rw[zdz this.1] at h2;rw[zdz this.2] at h3;exact .inl ((hx.fl p q ((hx.dm p).2 ⟨i,this.1,h2⟩)).2 ⟨i,j,h,h2,h3⟩)
   ·obtain⟨k,rfl⟩:∃k,i=M.n+k:=⟨i-M.n,by omega⟩;obtain⟨m,rfl⟩:∃m,j=M.n+m:=⟨j-M.n,by omega⟩;rw[show M.n+k-M.n=k from by omega,show M.n+m-M.n=m from by omega] at h;rw[zd7] at h2 h3;exact .inl ((hy.fl p q ((hy.dm p).2 ⟨k,(N.folB _ _ h).1,h2⟩)).2 ⟨k,m,h,h2,h3⟩)
   ·obtain⟨m,rfl⟩:∃m,j=M.n+m:=⟨j-M.n,by omega⟩;rw[show M.n+m-M.n=m from by omega] at h1;rw[zdz (M.lstB i h)] at h2;rw[zd7] at h3;exact .inr ⟨⟨i,h,h2⟩,m,h1,h3⟩
theorem zm0(h:zcm tk fol D e1 f1 l1 M)(hfo:∀p q,D p->(fol' p q↔fol p q\/(l1 p/\f1 q))):zcm tk fol' D True f1 l1 M.star:=by
 obtain⟨φ,h⟩:=h;refine⟨φ,h.inj,h.dm,⟨fun _=>rfl,fun _=>trivial⟩,h.fs,h.ls,fun p q hp=>?_,h.tk⟩;rw[hfo p q hp,h.fl p q hp,h.ls,h.fs];show _↔∃i j,(M.fol i j || (M.lst i&&M.fst j))=true/\_/\_;simp only[ztw,ztt];constructor
 ·rintro (⟨i,j,h1,h2,h3⟩|⟨⟨i,h1,h2⟩,j,h3,h4⟩)
  ·exact⟨i,j,.inl h1,h2,h3⟩
  ·exact⟨i,j,.inr ⟨h1,h3⟩,h2,h4⟩
 ·rintro ⟨i,j,h1|⟨h1,h2⟩,h3,h4⟩
  ·exact .inl ⟨i,j,h1,h3,h4⟩
  ·exact .inr ⟨⟨i,h1,h3⟩,j,h2,h4⟩
end
end
section
variable {l1 l2:Nat}
open Go.RowKit
attribute [local go_sem ↓] Go.wp_at_zero Go.wp_at_succ
theorem zmT(lo hi:Int)(w:World):
  Calls Tryz.prog 125 #[.agg #[.int .i64 lo,.int .i64 hi],.agg #[.int .i64 lo,.int .i64 hi]] w fun e w'=>e=.returned (.bool true)/\Below w.heap.size w w':=by
 go_enter Tryz.func125,Tryz.ntmps125
 go_wp2;go_ret;exact⟨rfl,((Below.refl _ _).alloc (zuz _) _).alloc (by simp) _⟩
theorem zkS(v v2:Value)(rs:List (Int×Int))(w:World)(hs:zan l1 w v rs)(hs2:zan l2 w v2 rs):
  Calls Tryz.prog 121 #[v,v2] w fun e w'=>e=.returned (.bool true)/\Below w.heap.size w w':=by
 obtain⟨ao,cap,rfl,hm,hc⟩:=hs;obtain⟨ao2,cap2,rfl,_,hc2⟩:=hs2
 go_enter Tryz.func121,Tryz.ntmps121
 go_wp2
 go_loopw [5] (fun i wr=>∃k:Nat,k<=rs.length/\i=.int .i64 k/\Below w.heap.size w wr)
  (fun i _=>rs.length-(intOf i).toNat)
 case atStart=>exact⟨0,zuL _,rfl,Below.refl _ _⟩
 case round=>
  obtain⟨k,hk,rfl,hb⟩:=hrel
  by_cases hlt:k<rs.length
  ·obtain⟨b,o,lo,hi,rfl,Hn,hbl,c0,c1⟩:=hc.elem hb hlt;obtain⟨b2,o2,lo2,hi2,rfl,Hn2,hbl2,d0,d1⟩:=hc2.elem hb hlt;have hee:=Hn.out.symm.trans Hn2.out;simp only[Prod.mk.injEq] at hee;obtain⟨rfl,rfl⟩:=hee;have hbr:b<wr.heap.size:=zuB hbl hb.size;have hbr2:b2<wr.heap.size:=zuB hbl2 hb.size;have hi0:(0:Int)<=(k:Int):=by omega
   have hi1:(k:Int)<(rs.length:Int):=by omega
   go_wp2
   go_region_held3 (fun w'=>w'.cell? ⟨b,o+k*2,none⟩=some (.int .i64 lo)/\w'.cell? ⟨b,o+k*2+1,none⟩=some (.int .i64 hi)/\w'.cell? ⟨b2,o2+k*2,none⟩=some (.int .i64 lo)/\w'.cell? ⟨b2,o2+k*2+1,none⟩=some (.int .i64 hi)) ((first|go_keep|exact⟨(hcc _ _ hbr).trans c0,(hcc _ _ hbr).trans c1,(hcc _ _ hbr2).trans d0,(hcc _ _ hbr2).trans d1⟩)) ((go_at_call 125;refine(zmT _ _ _).mono ?_;rintro e w2 ⟨rfl,hb2⟩;obtain⟨hcc,_⟩:=zfX hb2))
   go_wp2
   go_roundw
   case rel=>exact⟨k+1,by omega,by go_num,zaa hb.drew hb.size hb2⟩
   case measure=>simp[intOf];omega
  ·go_wp2;go_ret;exact⟨rfl,hb⟩
theorem zol(k mn mx g:Int)(v v2:Value)(rs:List (Int×Int))(w:World)(hs:zan l1 w v rs)(hs2:zan l2 w v2 rs):
  Calls Tryz.prog 114 #[.agg #[.int .i64 k,v,.int .i64 mn,.int .i64 mx,.int .i64 g],.agg #[.int .i64 k,v2,.int .i64 mn,.int .i64 mx,.int .i64 g]] w fun e w'=>e=.returned (.bool true)/\Below w.heap.size w w':=by
 go_enter Tryz.func114,Tryz.ntmps114
 go_wp2_with fail
 refine(zkS (l1:=l1) (l2:=l2) _ _ rs _ (hs.below ?_) (hs2.below ?_)).mono ?_
 ·exact((Below.refl _ _).alloc (zuz _) _).alloc (by simp) _
 ·exact((Below.refl _ _).alloc (zuz _) _).alloc (by simp) _
 rintro e w2 ⟨rfl,hb⟩;obtain⟨hcc,hff⟩:=zfX hb;have hbb:=((((Below.refl w.heap.size w).alloc (zuz _) _).alloc (by simp) _).trans (hb.mono (by simp;omega)));clear hb;go_wp2;go_ret;exact⟨rfl,hbb⟩
theorem zmS(v v2:Value)(rs:List zau)(w:World)(hs:zaP l1 w v rs)(hs2:zaP l2 w v2 rs):
  Calls Tryz.prog 107 #[v,v2] w fun e w'=>e=.returned (.bool true)/\Below w.heap.size w w':=by
 obtain⟨ao,cap,rfl,hm,hc⟩:=hs;obtain⟨ao2,cap2,rfl,_,hc2⟩:=hs2
 go_enter Tryz.func107,Tryz.ntmps107
 go_wp2
 go_loopw [5] (fun i wr=>∃k:Nat,k<=rs.length/\i=.int .i64 k/\Below w.heap.size w wr)
  (fun i _=>rs.length-(intOf i).toNat)
 case atStart=>exact⟨0,zuL _,rfl,Below.refl _ _⟩
 case round=>
  obtain⟨k,hk,rfl,hb⟩:=hrel
  by_cases hlt:k<rs.length
  ·obtain⟨b,o,sv,nd,rfl,Hn,hbl,c0,c1,c2,c3,c4,hsv⟩:=hc.elem hb hlt;obtain⟨b2,o2,sv2,nd2,rfl,Hn2,hbl2,d0,d1,d2,d3,d4,hsv2⟩:=hc2.elem hb hlt;have hee:nd=nd2:=Hn.out.symm.trans Hn2.out;subst hee;have hbr:b<wr.heap.size:=zuB hbl hb.size;have hbr2:b2<wr.heap.size:=zuB hbl2 hb.size;have hi0:(0:Int)<=(k:Int):=by omega
   have hi1:(k:Int)<(rs.length:Int):=by omega
   have hq1:zan l1 wr.drew sv nd.set:=hsv;have hq2:zan l2 wr.drew sv2 nd.set:=hsv2;go_wp2
   go_region_held3 (fun w'=>w'.cell? ⟨b,o+k*5,none⟩=some (.int .i64 nd.kind)/\w'.cell? ⟨b,o+k*5+1,none⟩=some sv/\w'.cell? ⟨b,o+k*5+2,none⟩=some (.int .i64 nd.min)/\w'.cell? ⟨b,o+k*5+3,none⟩=some (.int .i64 nd.max)/\w'.cell? ⟨b,o+k*5+4,none⟩=some (.int .i64 nd.group)/\w'.cell? ⟨b2,o2+k*5,none⟩=some (.int .i64 nd.kind)/\w'.cell? ⟨b2,o2+k*5+1,none⟩=some sv2/\w'.cell? ⟨b2,o2+k*5+2,none⟩=some (.int .i64 nd.min)/\w'.cell? ⟨b2,o2+k*5+3,none⟩=some (.int .i64 nd.max)/\w'.cell? ⟨b2,o2+k*5+4,none⟩=some (.int .i64 nd.group)) ((first|go_keep|exact⟨(hcc _ _ hbr).trans c0,(hcc _ _ hbr).trans c1,(hcc _ _ hbr).trans c2,(hcc _ _ hbr).trans c3,(hcc _ _ hbr).trans c4,(hcc _ _ hbr2).trans d0,(hcc _ _ hbr2).trans d1,(hcc _ _ hbr2).trans d2,(hcc _ _ hbr2).trans d3,(hcc _ _ hbr2).trans d4⟩)) ((go_at_call 114;refine(zol _ _ _ _ _ _ _ _ hq1 hq2).mono ?_;rintro e w2 ⟨rfl,hb2⟩;obtain⟨hcc,_⟩:=zfX hb2))
   go_wp2
   go_roundw
   case rel=>exact⟨k+1,by omega,by go_num,zaa hb.drew hb.size hb2⟩
   case measure=>simp[intOf];omega
  ·go_wp2;go_ret;exact⟨rfl,hb⟩
theorem zkR(bol eol:Bool)(v v2:Value)(ns:List zau)(w:World)(hs:zaP l1 w v ns)(hs2:zaP l2 w v2 ns):
  Calls Tryz.prog 94 #[.agg #[.bool bol,.bool eol,v],.agg #[.bool bol,.bool eol,v2]] w fun e w'=>e=.returned (.bool true)/\Below w.heap.size w w':=by
 go_enter Tryz.func94,Tryz.ntmps94
 go_wp2_with fail
 refine(zmS (l1:=l1) (l2:=l2) _ _ ns _ (hs.below ?_) (hs2.below ?_)).mono ?_
 ·exact((Below.refl _ _).alloc (zuz _) _).alloc (by simp) _
 ·exact((Below.refl _ _).alloc (zuz _) _).alloc (by simp) _
 rintro e w2 ⟨rfl,hb⟩;have hbb:=((((Below.refl w.heap.size w).alloc (zuz _) _).alloc (by simp) _).trans (hb.mono (by simp;omega)));clear hb;go_wp2;go_ret;exact⟨rfl,hbb⟩
theorem zjn(v v2:Value)(rs:List zai)(w:World)(hs:zax l1 w v rs)(hs2:zax l2 w v2 rs):
  Calls Tryz.prog 65 #[v,v2] w fun e w'=>e=.returned (.bool true)/\Below w.heap.size w w':=by
 obtain⟨ao,cap,rfl,hm,hc⟩:=hs;obtain⟨ao2,cap2,rfl,_,hc2⟩:=hs2
 go_enter Tryz.func65,Tryz.ntmps65
 go_wp2
 go_loopw [5] (fun i wr=>∃k:Nat,k<=rs.length/\i=.int .i64 k/\Below w.heap.size w wr)
  (fun i _=>rs.length-(intOf i).toNat)
 case atStart=>exact⟨0,zuL _,rfl,Below.refl _ _⟩
 case round=>
  obtain⟨k,hk,rfl,hb⟩:=hrel
  by_cases hlt:k<rs.length
  ·obtain⟨b,o,nv,nd,rfl,Hn,hbl,c0,c1,c2,hsv⟩:=hc.elem hb hlt;obtain⟨b2,o2,nv2,nd2,rfl,Hn2,hbl2,d0,d1,d2,hsv2⟩:=hc2.elem hb hlt;have hee:nd=nd2:=Hn.out.symm.trans Hn2.out;subst hee;have hbr:b<wr.heap.size:=zuB hbl hb.size;have hbr2:b2<wr.heap.size:=zuB hbl2 hb.size;have hi0:(0:Int)<=(k:Int):=by omega
   have hi1:(k:Int)<(rs.length:Int):=by omega
   have hq1:zaP l1 wr.drew nv nd.nodes:=hsv;have hq2:zaP l2 wr.drew nv2 nd.nodes:=hsv2;go_wp2
   go_region_held3 (fun w'=>w'.cell? ⟨b,o+k*3,none⟩=some (.bool nd.bol)/\w'.cell? ⟨b,o+k*3+1,none⟩=some (.bool nd.eol)/\w'.cell? ⟨b,o+k*3+2,none⟩=some nv/\w'.cell? ⟨b2,o2+k*3,none⟩=some (.bool nd.bol)/\w'.cell? ⟨b2,o2+k*3+1,none⟩=some (.bool nd.eol)/\w'.cell? ⟨b2,o2+k*3+2,none⟩=some nv2) ((first|go_keep|exact⟨(hcc _ _ hbr).trans c0,(hcc _ _ hbr).trans c1,(hcc _ _ hbr).trans c2,(hcc _ _ hbr2).trans d0,(hcc _ _ hbr2).trans d1,(hcc _ _ hbr2).trans d2⟩)) ((go_at_call 94;refine(zkR _ _ _ _ _ _ hq1 hq2).mono ?_;rintro e w2 ⟨rfl,hb2⟩;obtain⟨hcc,_⟩:=zfX hb2))
   go_wp2
   go_roundw
   case rel=>exact⟨k+1,by omega,by go_num,zaa hb.drew hb.size hb2⟩
   case measure=>simp[intOf];omega
  ·go_wp2;go_ret;exact⟨rfl,hb⟩
theorem zom(g:Int)(v v2:Value)(bs:List zai)(w:World)(hs:zax l1 w v bs)(hs2:zax l2 w v2 bs):
  Calls Tryz.prog 28 #[.agg #[v,.int .i64 g],.agg #[v2,.int .i64 g]] w fun e w'=>e=.returned (.bool true)/\Below w.heap.size w w':=by
 go_enter Tryz.func28,Tryz.ntmps28
 go_wp2_with fail
 refine(zjn (l1:=l1) (l2:=l2) _ _ bs _ (hs.below ?_) (hs2.below ?_)).mono ?_
 ·exact((Below.refl _ _).alloc (zuz _) _).alloc (by simp) _
 ·exact((Below.refl _ _).alloc (zuz _) _).alloc (by simp) _
 rintro e w2 ⟨rfl,hb⟩;obtain⟨hcc,hff⟩:=zfX hb;have hbb:=((((Below.refl w.heap.size w).alloc (zuz _) _).alloc (by simp) _).trans (hb.mono (by simp;omega)));clear hb;go_wp2;go_ret;exact⟨rfl,hbb⟩
end
section
open Go.RowKit
def btw(c lo hi:Int):Bool:=decide (lo<=c/\c<=hi)
theorem zaw(c lo hi:Int)(w:World):Calls Tryz.prog 14 #[.int .i64 c,.int .i64 lo,.int .i64 hi] w fun e w'=>e=.returned (.bool (btw c lo hi))/\w'=w:=by
 by_cases h1:lo<=c
 ·by_cases h2:c<=hi
  all_goals
   go_enter Tryz.func14,Tryz.ntmps14
   go_wp2;go_ret;exact⟨zay (by simp[btw];omega),rfl⟩
 ·go_enter Tryz.func14,Tryz.ntmps14
  go_wp2;go_ret;exact⟨zay (by simp[btw];omega),rfl⟩
end
open Go.RowKit
def zaI(k:Int):Nat:=if k=2\/k=3 then 2 else if k=4\/k=5 then 1 else 0
def za2(mn mx:Int):Int:=if mx=-1 then mn+1 else if mx<1 then 1 else mx
def capW(n:Int):Int:=if n<=2001 then n else 2001
def zaY(mn mx:Int):Bool:=decide (0<=mn/\mn<=255)&&decide (mx=-1\/(mn<=mx/\mx<=255))
def zcU(mn mx:Int):Bool:=decide (mn=0/\(mx=1\/mx=-1))
theorem zlW(k:Int):zaI k<=2:=by unfold zaI;split<;>(try split)<;>omega
theorem zgd(k:Int)(w:World):Calls Tryz.prog 97 #[.int .i64 k] w fun e w'=>e=.returned (.int .i64 (zaI k))/\w'=w:=by
 by_cases h2:k=2
 ·subst h2;go_enter Tryz.func97,Tryz.ntmps97;go_wp2;go_ret;exact⟨rfl,rfl⟩
 by_cases h3:k=3
 ·subst h3;go_enter Tryz.func97,Tryz.ntmps97;go_wp2;go_ret;exact⟨rfl,rfl⟩
 by_cases h4:k=4
 ·subst h4;go_enter Tryz.func97,Tryz.ntmps97;go_wp2;go_ret;exact⟨rfl,rfl⟩
 by_cases h5:k=5
 ·subst h5;go_enter Tryz.func97,Tryz.ntmps97;go_wp2;go_ret;exact⟨rfl,rfl⟩
 have e2:(k==2)=false:=zuM.2 h2;have e3:(k==3)=false:=zuM.2 h3;have e4:(k==4)=false:=zuM.2 h4;have e5:(k==5)=false:=zuM.2 h5;have ha:Hid (zaI k=0):=by show _=_;simp[zaI,h2,h3,h4,h5]
 clear h2 h3 h4 h5
 go_enter Tryz.func97,Tryz.ntmps97
 go_wp2;go_ret;exact⟨zbl (by rw[ha.out];rfl),rfl⟩
theorem zbW(k:Int)(w:World):Calls Tryz.prog 110 #[.int .i64 k] w fun e w'=>e=.returned (.int .i64 (zaI k))/\w'=w:=by
 by_cases h2:k=2
 ·subst h2;go_enter Tryz.func110,Tryz.ntmps110;go_wp2;go_ret;exact⟨rfl,rfl⟩
 by_cases h3:k=3
 ·subst h3;go_enter Tryz.func110,Tryz.ntmps110;go_wp2;go_ret;exact⟨rfl,rfl⟩
 by_cases h4:k=4
 ·subst h4;go_enter Tryz.func110,Tryz.ntmps110;go_wp2;go_ret;exact⟨rfl,rfl⟩
 by_cases h5:k=5
 ·subst h5;go_enter Tryz.func110,Tryz.ntmps110;go_wp2;go_ret;exact⟨rfl,rfl⟩
 have e2:(k==2)=false:=zuM.2 h2;have e3:(k==3)=false:=zuM.2 h3;have e4:(k==4)=false:=zuM.2 h4;have e5:(k==5)=false:=zuM.2 h5;have ha:Hid (zaI k=0):=by show _=_;simp[zaI,h2,h3,h4,h5]
 clear h2 h3 h4 h5
 go_enter Tryz.func110,Tryz.ntmps110
 go_wp2;go_ret;exact⟨zbl (by rw[ha.out];rfl),rfl⟩
theorem zoe(k mn mx g:Int)(sv:Value)(w:World)(h0:0<=mn)(h1:mn<=255):
  Calls Tryz.prog 98 #[.agg #[.int .i64 k,sv,.int .i64 mn,.int .i64 mx,.int .i64 g]] w fun e w'=>e=.returned (.int .i64 (za2 mn mx))/\Below w.heap.size w w':=by
 rcases(show mx=-1\/(mx≠-1/\mx<1)\/(mx≠-1/\1<=mx) by omega) with rfl|⟨ha,hb⟩|⟨ha,hb⟩
 all_goals
  go_enter Tryz.func98,Tryz.ntmps98
  go_wp2;go_ret;refine⟨zbl ?_,(Below.refl _ _).alloc (zuz _) _⟩;simp[za2]<;>omega
theorem zcg(n:Int)(w:World):Calls Tryz.prog 78 #[.int .i64 n] w fun e w'=>e=.returned (.int .i64 (capW n))/\w'=w:=by
 by_cases h:n<=2001
 all_goals
  go_enter Tryz.func78,Tryz.ntmps78
  go_wp2;go_ret;refine⟨zbl ?_,rfl⟩;simp[capW]<;>omega
theorem zkG(mn mx:Int)(w:World):Calls Tryz.prog 118 #[.int .i64 mn,.int .i64 mx] w fun e w'=>e=.returned (.bool (zaY mn mx))/\w'=w:=by
 by_cases h0:mn<0
 ·go_enter Tryz.func118,Tryz.ntmps118;go_wp2;go_ret;exact⟨zay (by simp[zaY];omega),rfl⟩
 by_cases h1:255<mn
 ·go_enter Tryz.func118,Tryz.ntmps118;go_wp2;go_ret;exact⟨zay (by simp[zaY];omega),rfl⟩
 by_cases h2:mx=-1
 ·subst h2;go_enter Tryz.func118,Tryz.ntmps118;go_wp2;go_ret;exact⟨zay (by simp[zaY];omega),rfl⟩
 have e2:(mx == -1)=false:=zuM.2 h2;have H2:Hid (mx≠-1):=h2;clear h2
 by_cases h3:mn<=mx
 ·by_cases h4:mx<=255
  ·go_enter Tryz.func118,Tryz.ntmps118;go_wp2;go_ret;exact⟨zay (by have:=H2.out;simp[zaY];omega),rfl⟩
  ·go_enter Tryz.func118,Tryz.ntmps118;go_wp2;go_ret;exact⟨zay (by have:=H2.out;simp[zaY];omega),rfl⟩
 ·go_enter Tryz.func118,Tryz.ntmps118;go_wp2;go_ret;exact⟨zay (by have:=H2.out;simp[zaY];omega),rfl⟩
theorem zdH(v:Value)(mn mx:Int)(w:World):Calls Tryz.prog 123 #[.agg #[v,.int .i64 mn,.int .i64 mx]] w fun e w'=>e=.returned (.bool (zcU mn mx))/\Below w.heap.size w w':=by
 by_cases h0:mn=0
 ·subst h0
  by_cases h1:mx=1
  ·subst h1;go_enter Tryz.func123,Tryz.ntmps123;go_wp2;go_ret;exact⟨rfl,(Below.refl _ _).alloc (zuz _) _⟩
  by_cases h2:mx=-1
  ·subst h2;go_enter Tryz.func123,Tryz.ntmps123;go_wp2;go_ret;exact⟨rfl,(Below.refl _ _).alloc (zuz _) _⟩
  have e1:(mx==1)=false:=zuM.2 h1;have e2:(mx == -1)=false:=zuM.2 h2;have H:Hid (zcU 0 mx=false):=by show _=_;simp[zcU,h1,h2]
  clear h1 h2
  go_enter Tryz.func123,Tryz.ntmps123;go_wp2;go_ret;exact⟨zay H.out.symm,(Below.refl _ _).alloc (zuz _) _⟩
 ·have e0:(mn==0)=false:=zuM.2 h0;have H:Hid (zcU mn mx=false):=by show _=_;simp[zcU,h0]
  clear h0
  go_enter Tryz.func123,Tryz.ntmps123;go_wp2;go_ret;exact⟨zay H.out.symm,(Below.refl _ _).alloc (zuz _) _⟩
end Go.Proofs.YthddplbodacjgaaGreatDoor
