import Derived.Test.YtfajjdgkiilhfaaGreatDoorC0
import Derived.Deep.RegionHeld3
import Derived.Deep.DrawnRows
import Derived.Deep.AppendLies
namespace Go.Proofs.YtfajjdgkiilhfaaGreatDoor
open Proofs.Tryz
open Option renaming none->za,some->zb
open Value renaming int->zc
open Go renaming World->zd,Value->ze
set_option maxHeartbeats 400000
open Go.RowKit
inductive Pt where
 |set (f:Nat->Bool)
 |seq (l r:Pt)
 |eH (l r:Pt)
 |jI (b:Pt) (mn mx:Int)
 |dX (b:Pt) (g:Int)
structure GA where
 n:Nat
 fC:Bool
 fst:Nat->Bool
 kF:Nat->Bool
 ii:Nat->Nat->Bool
 st:Nat->Nat->Bool
 xD:∀i,fst i=true->i<n
 tT:∀i,kF i=true->i<n
 tC:∀i j,ii i j=true->i<n/\j<n
 qI:∀i c,st i c=true->i<n
theorem GA.same{x y:GA}(h1:x.n=y.n)(h2:x.fC=y.fC)(h3:∀i,x.fst i=y.fst i)(h4:∀i,x.kF i=y.kF i)(h5:∀i j,x.ii i j=y.ii i j)(h6:∀i c,x.st i c=y.st i c):x=y:=by
 obtain⟨n,e,f,l,o,s,b1,b2,b3,b4⟩:=x;obtain⟨n',e',f',l',o',s',b1',VM,b3',DR⟩:=y;have e1:n=n':=h1;have e2:e=e':=h2;have e3:f=f':=funext h3;have e4:l=l':=funext h4;have e5:o=o':=funext λi=>funext (h5 i)
 have e6:s=s':=funext λi=>funext (h6 i)
 subst e1;subst e2;subst e3;subst e4;subst e5;subst e6
 rfl
def GA.xB(b:Bool):GA:=⟨0,b,λ_=>false,λ_=>false,λ_ _=>false,λ_ _=>false,λ_ h=>by simp at h,λ_ h=>by simp at h,λ_ _ h=>by simp at h,λ_ _ h=>by simp at h⟩
def GA.one(f:Nat->Bool):GA:=⟨1,false,λi=>i==0,λi=>i==0,λ_ _=>false,λi c=>i==0&&f c,λi h=>by simp at h;omega,λi h=>by simp at h;omega,λ_ _ h=>by simp at h,λi c h=>by simp at h;omega⟩
def GA.seq(x y:GA):GA where
 n:=x.n+y.n
 fC:=x.fC&&y.fC
 fst i:=x.fst i || (x.fC&&(decide (x.n<=i)&&y.fst (i-x.n)))
 kF i:=(decide (x.n<=i)&&y.kF (i-x.n)) || (y.fC&&x.kF i)
 ii i j:=x.ii i j || (decide (x.n<=i)&&(decide (x.n<=j)&&y.ii (i-x.n) (j-x.n))) || (x.kF i&&(decide (x.n<=j)&&y.fst (j-x.n)))
 st i c:=x.st i c || (decide (x.n<=i)&&y.st (i-x.n) c)
 xD i h:=by
  simp only[nt,fI,lZ]at h;rcases h with h|⟨-,h0,h⟩
  ·have:=x.xD _ h;omega
  ·have:=y.xD _ h;omega
 tT i h:=by
  simp only[nt,fI,lZ]at h;rcases h with ⟨h0,h⟩|⟨-,h⟩
  ·have:=y.tT _ h;omega
  ·have:=x.tT _ h;omega
 tC i j h:=by
  simp only[nt,fI,lZ]at h;rcases h with (h|⟨h0,h1,h⟩)|⟨h,h0,h1⟩
  ·have:=x.tC _ _ h;omega
  ·have:=y.tC _ _ h;omega
  ·have:=x.tT _ h;have:=y.xD _ h1;omega
 qI i c h:=by
  simp only[nt,fI,lZ]at h;rcases h with h|⟨h0,h⟩
  ·have:=x.qI _ _ h;omega
  ·have:=y.qI _ _ h;omega
def GA.eH(x y:GA):GA where
 n:=x.n+y.n
 fC:=x.fC || y.fC
 fst i:=x.fst i || (decide (x.n<=i)&&y.fst (i-x.n))
 kF i:=x.kF i || (decide (x.n<=i)&&y.kF (i-x.n))
 ii i j:=x.ii i j || (decide (x.n<=i)&&(decide (x.n<=j)&&y.ii (i-x.n) (j-x.n)))
 st i c:=x.st i c || (decide (x.n<=i)&&y.st (i-x.n) c)
 xD i h:=by
  simp only[nt,fI,lZ]at h;rcases h with h|⟨h0,h⟩
  ·have:=x.xD _ h;omega
  ·have:=y.xD _ h;omega
 tT i h:=by
  simp only[nt,fI,lZ]at h;rcases h with h|⟨h0,h⟩
  ·have:=x.tT _ h;omega
  ·have:=y.tT _ h;omega
 tC i j h:=by
  simp only[nt,fI,lZ]at h;rcases h with h|⟨h0,h1,h⟩
  ·have:=x.tC _ _ h;omega
  ·have:=y.tC _ _ h;omega
 qI i c h:=by
  simp only[nt,fI,lZ]at h;rcases h with h|⟨h0,h⟩
  ·have:=x.qI _ _ h;omega
  ·have:=y.qI _ _ h;omega
def GA.star(x:GA):GA where
 n:=x.n
 fC:=true
 fst:=x.fst
 kF:=x.kF
 ii i j:=x.ii i j || (x.kF i&&x.fst j)
 st:=x.st
 xD:=x.xD
 tT:=x.tT
 tC i j h:=by
  simp only[nt,fI]at h;rcases h with h|⟨h,h1⟩
  ·exact x.tC _ _ h
  ·exact⟨x.tT _ h,x.xD _ h1⟩
 qI:=x.qI
def GA.Od(x:GA):GA:={x with fC:=true}
theorem zoS(x:GA):x.eH (.xB true)=x.Od:=by
 refine GA.same (by simp[GA.eH,GA.xB,GA.Od]) (by simp[GA.eH,GA.xB,GA.Od]) (λi=>?_) (λi=>?_) (λi j=>?_) (λi c=>?_)<;>simp[GA.eH,GA.xB,GA.Od]
def Sy(f:GA->GA):Nat->GA->GA
 |0,x=>x
 |k+1,x=>f (Sy f k x)
def rE(x:GA)(mn mx:Int):GA:=if mx=-1 then Sy x.seq mn.toNat x.star else Sy x.seq mn.toNat (Sy (λr=>(x.seq r).Od) (mx-mn).toNat (.xB true))
def iG:Pt->GA
 |.set f=>.one f
 |.seq l r=>(iG l).seq (iG r)
 |.eH l r=>(iG l).eH (iG r)
 |.jI b mn mx=>rE (iG b) mn mx
 |.dX b _=>iG b
theorem zs7(x:GA):rE x 0 (-1)=x.star:=rfl
theorem zs8(x:GA):rE x 0 0=.xB true:=rfl
theorem zs6(x:GA)(mn mx:Int)(h:0<mn):rE x mn mx=x.seq (rE x (mn-1) (if mx > 0 then mx-1 else mx))\/(0<=mx/\mx<mn):=by
 by_cases h1:mx=-1
 ·subst h1;left;obtain⟨k,rfl⟩:∃k:Nat,mn=k+1:=⟨(mn-1).toNat,by omega⟩;rw[ab (by omega),show ((k:Int)+1-1)=k from by omega];unfold rE;rw[af rfl,af rfl,show ((k:Int)+1).toNat=k+1 from by omega,s7]
  rfl
 ·by_cases h2:mn<=mx
  ·left
   obtain⟨k,rfl⟩:∃k:Nat,mn=k+1:=⟨(mn-1).toNat,by omega⟩;rw[af (by omega),show ((k:Int)+1-1)=k from by omega];unfold rE;rw[ab h1,ab (by omega),show ((k:Int)+1).toNat=k+1 from by omega,s7,show (mx-(k+1):Int)=mx-1-k from by omega]
   rfl
  ·by_cases h3:0<=mx
   ·exact .inr ⟨h3,by omega⟩
   ·left
    obtain⟨k,rfl⟩:∃k:Nat,mn=k+1:=⟨(mn-1).toNat,by omega⟩;rw[ab (by omega),show ((k:Int)+1-1)=k from by omega];unfold rE;rw[ab h1,ab h1,show ((k:Int)+1).toNat=k+1 from by omega,s7,show (mx-(k+1):Int).toNat=0 from by omega,show (mx-k:Int).toNat=0 from by omega]
    rfl
theorem zs5(x:GA)(mx:Int)(h:0<mx):rE x 0 mx=(x.seq (rE x 0 (mx-1))).eH (.xB true):=by
 obtain⟨k,rfl⟩:∃k:Nat,mx=k+1:=⟨(mx-1).toNat,by omega⟩;rw[zoS];unfold rE;rw[ab (by omega),ab (by omega),show ((k:Int)+1-0).toNat=k+1 from by omega,show ((k:Int)+1-1-0).toNat=k from by omega]
 rfl
section
variable {tk:Nat->UInt8->Prop} {ii:Nat->Nat->Prop} {D:Nat->Prop} {e:Prop} {first last:Nat->Prop} {M:GA}
end
def two(n:Nat)(φ ψ:Nat->Nat)(i:Nat):Nat:=if i<n then φ i else ψ (i-n)
section
variable {tk:Nat->UInt8->Prop} {ii zCK:Nat->Nat->Prop} {D E:Nat->Prop} {e1 e2:Prop} {f1 l1 f2 l2:Nat->Prop} {M N:GA} {φ ψ:Nat->Nat}
end
section
variable {lo rC:Nat}{w w' wr:zd}{v:ze}{rs:List (Int×Int)}{ao:Option Addr}
structure aC where
 kind:Int
 set:List (Int×Int)
 min:Int
 max:Int
 group:Int
structure dc where
 bol:Bool
 eol:Bool
 nodes:List aC
structure dL where
 branches:List dc
 jC:Int
def aC.zero:aC:=⟨0,[],0,0,0⟩
def dc.zero:dc:=⟨false,false,[]⟩
def dL.zero:dL:=⟨[],0⟩
def ZN(lo:Nat)(w:zd)(ao:Option Addr)(rs:List (Int×Int)):Prop:=
 0<rs.length->∃b o,ao=zb ⟨b,o,za⟩/\lo<=b/\b<w.heap.size/\
  ∀i,i<rs.length->w.cell? ⟨b,o+i*2,za⟩=zb (zc .i64 (rs.getD i (0,0)).1)/\w.cell? ⟨b,o+i*2+1,za⟩=zb (zc .i64 (rs.getD i (0,0)).2)
def nr(lo:Nat)(w:zd)(v:ze)(rs:List (Int×Int)):Prop:=∃ao cap,v=.slice ao rs.length cap/\rs.length<=9223372036854775807/\ZN lo w ao rs
def zhd(lo:Nat)(w:zd)(ao:Option Addr)(ns:List aC):Prop:=
 0<ns.length->∃b o,ao=zb ⟨b,o,za⟩/\lo<=b/\b<w.heap.size/\
  ∀i,i<ns.length->w.cell? ⟨b,o+i*5,za⟩=zb (zc .i64 (ns.getD i .zero).kind)/\
   (∃sv,w.cell? ⟨b,o+i*5+1,za⟩=zb sv/\nr lo w sv (ns.getD i .zero).set)/\
   w.cell? ⟨b,o+i*5+2,za⟩=zb (zc .i64 (ns.getD i .zero).min)/\w.cell? ⟨b,o+i*5+3,za⟩=zb (zc .i64 (ns.getD i .zero).max)/\
   w.cell? ⟨b,o+i*5+4,za⟩=zb (zc .i64 (ns.getD i .zero).group)
def og(lo:Nat)(w:zd)(v:ze)(ns:List aC):Prop:=∃ao cap,v=.slice ao ns.length cap/\ns.length<=9223372036854775807/\zhd lo w ao ns
def Zy(lo:Nat)(w:zd)(ao:Option Addr)(bs:List dc):Prop:=
 0<bs.length->∃b o,ao=zb ⟨b,o,za⟩/\lo<=b/\b<w.heap.size/\
  ∀i,i<bs.length->w.cell? ⟨b,o+i*3,za⟩=zb (.bool (bs.getD i .zero).bol)/\w.cell? ⟨b,o+i*3+1,za⟩=zb (.bool (bs.getD i .zero).eol)/\
   (∃nv,w.cell? ⟨b,o+i*3+2,za⟩=zb nv/\og lo w nv (bs.getD i .zero).nodes)
def iQ(lo:Nat)(w:zd)(v:ze)(bs:List dc):Prop:=∃ao cap,v=.slice ao bs.length cap/\bs.length<=9223372036854775807/\Zy lo w ao bs
theorem nr.same(h:nr lo w v rs)(hb:Same lo w w'):nr lo w' v rs:=by
 obtain⟨ao,cap,rfl,hm,h⟩:=h;refine⟨ao,cap,rfl,hm,λh0=>?_⟩;obtain⟨b,o,rfl,fX,hlt,hc⟩:=h h0;refine⟨b,o,rfl,fX,dR hlt hb.size,λi hi=>?_⟩;obtain⟨c0,c1⟩:=hc i hi;exact⟨(hb.cell (by exact fX) (by exact hlt)).trans c0,(hb.cell (by exact fX) (by exact hlt)).trans c1⟩
theorem og.same{ns:List aC}(h:og lo w v ns)(hb:Same lo w w'):og lo w' v ns:=by
 obtain⟨ao,cap,rfl,hm,h⟩:=h;refine⟨ao,cap,rfl,hm,λh0=>?_⟩;obtain⟨b,o,rfl,fX,hlt,hc⟩:=h h0;refine⟨b,o,rfl,fX,dR hlt hb.size,λi hi=>?_⟩;obtain⟨c0,⟨sv,c1,hs⟩,c2,c3,c4⟩:=hc i hi;have hcell:∀off,w'.cell? ⟨b,off,za⟩=w.cell? ⟨b,off,za⟩:=λoff=>hb.cell (by exact fX) (by exact hlt)
 exact⟨(hcell _).trans c0,⟨sv,(hcell _).trans c1,hs.same hb⟩,(hcell _).trans c2,(hcell _).trans c3,(hcell _).trans c4⟩
theorem iQ.same{bs:List dc}(h:iQ lo w v bs)(hb:Same lo w w'):iQ lo w' v bs:=by
 obtain⟨ao,cap,rfl,hm,h⟩:=h;refine⟨ao,cap,rfl,hm,λh0=>?_⟩;obtain⟨b,o,rfl,fX,hlt,hc⟩:=h h0;refine⟨b,o,rfl,fX,dR hlt hb.size,λi hi=>?_⟩;obtain⟨c0,c1,⟨nv,c2,hn⟩⟩:=hc i hi;have hcell:∀off,w'.cell? ⟨b,off,za⟩=w.cell? ⟨b,off,za⟩:=λoff=>hb.cell (by exact fX) (by exact hlt)
 exact⟨(hcell _).trans c0,(hcell _).trans c1,⟨nv,(hcell _).trans c2,hn.same hb⟩⟩
theorem nr.below(h:nr lo w v rs)(hb:Below w.heap.size w w'):nr lo w' v rs:=h.same (.k8 hb)
theorem og.below{ns:List aC}(h:og lo w v ns)(hb:Below w.heap.size w w'):og lo w' v ns:=h.same (.k8 hb)
theorem iQ.below{bs:List dc}(h:iQ lo w v bs)(hb:Below w.heap.size w w'):iQ lo w' v bs:=h.same (.k8 hb)
theorem nr.mono(h:nr lo w v rs)(hl:rC<=lo):nr rC w v rs:=by
 obtain⟨ao,cap,rfl,hm,h⟩:=h;refine⟨ao,cap,rfl,hm,λh0=>?_⟩;obtain⟨b,o,rfl,fX,r⟩:=h h0;exact⟨b,o,rfl,cY hl fX,r⟩
theorem og.mono{rs:List aC}(h:og lo w v rs)(hl:rC<=lo):og rC w v rs:=by
 obtain⟨ao,cap,rfl,hm,h⟩:=h;refine⟨ao,cap,rfl,hm,λh0=>?_⟩;obtain⟨b,o,rfl,fX,hlt,hc⟩:=h h0;refine⟨b,o,rfl,cY hl fX,hlt,λi hi=>?_⟩;obtain⟨c0,⟨sv,c1,hs⟩,r⟩:=hc i hi;exact⟨c0,⟨sv,c1,hs.mono hl⟩,r⟩
theorem ZN.elem(h:ZN lo w ao rs)(hb:Below w.heap.size w wr){k:Nat}(hk:k<rs.length):
  ∃(b o:Nat) (lo hi:Int),ao=zb ⟨b,o,za⟩/\Hid (rs.getD k (0,0)=(lo,hi))/\b<w.heap.size/\wr.cell? ⟨b,o+k*2,za⟩=zb (zc .i64 lo)/\wr.cell? ⟨b,o+k*2+1,za⟩=zb (zc .i64 hi):=by
 obtain⟨b,o,rfl,_,hlt,hc⟩:=h (by omega);obtain⟨c0,c1⟩:=hc k hk;exact⟨b,o,_,_,rfl,rfl,hlt,(hb.cell (by exact hlt)).trans c0,(hb.cell (by exact hlt)).trans c1⟩
theorem zhd.elem{ns:List aC}(h:zhd lo w ao ns)(hb:Below w.heap.size w wr){k:Nat}(hk:k<ns.length):
  ∃(b o:Nat) (sv:ze) (nd:aC),ao=zb ⟨b,o,za⟩/\Hid (ns.getD k .zero=nd)/\b<w.heap.size/\wr.cell? ⟨b,o+k*5,za⟩=zb (zc .i64 nd.kind)/\wr.cell? ⟨b,o+k*5+1,za⟩=zb sv/\
   wr.cell? ⟨b,o+k*5+2,za⟩=zb (zc .i64 nd.min)/\wr.cell? ⟨b,o+k*5+3,za⟩=zb (zc .i64 nd.max)/\wr.cell? ⟨b,o+k*5+4,za⟩=zb (zc .i64 nd.group)/\nr lo wr sv nd.set:=by
 obtain⟨b,o,rfl,_,hlt,hc⟩:=h (by omega);obtain⟨c0,⟨sv,c1,hs⟩,c2,c3,c4⟩:=hc k hk;exact⟨b,o,sv,_,rfl,rfl,hlt,(hb.cell (by exact hlt)).trans c0,(hb.cell (by exact hlt)).trans c1,(hb.cell (by exact hlt)).trans c2,(hb.cell (by exact hlt)).trans c3,(hb.cell (by exact hlt)).trans c4,hs.below hb⟩
theorem Zy.elem{bs:List dc}(h:Zy lo w ao bs)(hb:Below w.heap.size w wr){k:Nat}(hk:k<bs.length):
  ∃(b o:Nat) (nv:ze) (bd:dc),ao=zb ⟨b,o,za⟩/\Hid (bs.getD k .zero=bd)/\b<w.heap.size/\wr.cell? ⟨b,o+k*3,za⟩=zb (.bool bd.bol)/\wr.cell? ⟨b,o+k*3+1,za⟩=zb (.bool bd.eol)/\
   wr.cell? ⟨b,o+k*3+2,za⟩=zb nv/\og lo wr nv bd.nodes:=by
 obtain⟨b,o,rfl,_,hlt,hc⟩:=h (by omega);obtain⟨c0,c1,⟨nv,c2,hn⟩⟩:=hc k hk;exact⟨b,o,nv,_,rfl,rfl,hlt,(hb.cell (by exact hlt)).trans c0,(hb.cell (by exact hlt)).trans c1,(hb.cell (by exact hlt)).trans c2,hn.below hb⟩
end
theorem iQ.mono{lo rC:Nat}{w:zd}{v:ze}{rs:List dc}(h:iQ lo w v rs)(hl:rC<=lo):iQ rC w v rs:=by
 obtain⟨ao,cap,rfl,hm,h⟩:=h;refine⟨ao,cap,rfl,hm,λh0=>?_⟩;obtain⟨b,o,rfl,fX,hlt,hc⟩:=h h0;refine⟨b,o,rfl,cY hl fX,hlt,λi hi=>?_⟩;obtain⟨c0,c1,⟨sv,c2,hs⟩⟩:=hc i hi;exact⟨c0,c1,⟨sv,c2,hs.mono hl⟩⟩
def Small(bs:List dc):Prop:=bs.length<=1048576/\∀i,i<bs.length->(bs.getD i .zero).nodes.length<=1048576/\∀j,j<(bs.getD i .zero).nodes.length->((bs.getD i .zero).nodes.getD j .zero).set.length<=1048576
section
attribute [local go_sem ↓] wp_at_zero wp_at_succ
end
def aP(k:Int):Nat:=if k=2\/k=3 then 2 else if k=4\/k=5 then 1 else 0
def oO(mn mx:Int):Int:=if mx=-1 then mn+1 else if mx<1 then 1 else mx
def oy(n:Int):Int:=if n<=2001 then n else 2001
def lz(mn mx:Int):Bool:=decide (0<=mn/\mn<=255)&&decide (mx=-1\/(mn<=mx/\mx<=255))
theorem zr9(k:Int):aP k<=2:=by unfold aP;split<;>(try split)<;>omega
theorem TS(k:Int)(w:zd):Calls prog 99 #[zc .i64 k] w λe w'=>e=.returned (zc .i64 (aP k))/\w'=w:=by
 by_cases h2:k=2
 ·subst h2;go_enter func99,ntmps99;go_wp2;go_ret;exact⟨rfl,rfl⟩
 by_cases h3:k=3
 ·subst h3;go_enter func99,ntmps99;go_wp2;go_ret;exact⟨rfl,rfl⟩
 by_cases h4:k=4
 ·subst h4;go_enter func99,ntmps99;go_wp2;go_ret;exact⟨rfl,rfl⟩
 by_cases h5:k=5
 ·subst h5;go_enter func99,ntmps99;go_wp2;go_ret;exact⟨rfl,rfl⟩
 have e2:(k==2)=false:=lY.2 h2;have e3:(k==3)=false:=lY.2 h3;have e4:(k==4)=false:=lY.2 h4;have e5:(k==5)=false:=lY.2 h5;have ha:Hid (aP k=0):=by show _=_;simp[aP,h2,h3,h4,h5]
 clear h2 h3 h4 h5
 go_enter func99,ntmps99
 go_wp2;go_ret;exact⟨ew (by rw[ha.out];rfl),rfl⟩
theorem zpY(k mn mx g:Int)(sv:ze)(w:zd)(h0:0<=mn)(h1:mn<=255):
  Calls prog 90 #[.agg #[zc .i64 k,sv,zc .i64 mn,zc .i64 mx,zc .i64 g]] w λe w'=>e=.returned (zc .i64 (oO mn mx))/\Below w.heap.size w w':=by
 rcases(show mx=-1\/(mx≠-1/\mx<1)\/(mx≠-1/\1<=mx) by omega) with rfl|⟨ha,hb⟩|⟨ha,hb⟩
 all_goals
  go_enter func90,ntmps90
  go_wp2;go_ret;refine⟨ew ?_,ax⟩;simp[oO]<;>omega
end Go.Proofs.YtfajjdgkiilhfaaGreatDoor
