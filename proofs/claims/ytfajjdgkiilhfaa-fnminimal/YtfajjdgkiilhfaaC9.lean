import Derived.Test.YtfajjdgkiilhfaaC0
import Derived.Deep.RegionHeld3
import Derived.Deep.DrawnRows
import Derived.Deep.AppendLies
namespace Go.Proofs.Ytfajjdgkiilhfaa
open Proofs.Try
open Option renaming none->za,some->zh
open Value renaming int->zi
open Go renaming World->zn,Value->zp
set_option maxHeartbeats 400000
open Go.RowKit
inductive Pt where
 |set (f:Nat->Bool)
 |seq (l r:Pt)
 |eA (l r:Pt)
 |jX (b:Pt) (mn mx:Int)
 |aH (b:Pt) (g:Int)
structure GA where
 n:Nat
 fy:Bool
 fst:Nat->Bool
 kM:Nat->Bool
 ij:Nat->Nat->Bool
 st:Nat->Nat->Bool
 yq:∀i,fst i=true->i<n
 ug:∀i,kM i=true->i<n
 tM:∀i j,ij i j=true->i<n/\j<n
 qH:∀i c,st i c=true->i<n
theorem GA.same{x y:GA}(h1:x.n=y.n)(h2:x.fy=y.fy)(h3:∀i,x.fst i=y.fst i)(h4:∀i,x.kM i=y.kM i)(h5:∀i j,x.ij i j=y.ij i j)(h6:∀i c,x.st i c=y.st i c):x=y:=by
 obtain⟨n,e,f,l,o,s,b1,b2,b3,b4⟩:=x;obtain⟨n',e',f',l',o',s',b1',Ww,b3',EL⟩:=y;have e1:n=n':=h1;have e2:e=e':=h2;have e3:f=f':=funext h3;have e4:l=l':=funext h4;have e5:o=o':=funext λi=>funext (h5 i)
 have e6:s=s':=funext λi=>funext (h6 i)
 subst e1;subst e2;subst e3;subst e4;subst e5;subst e6
 rfl
def GA.yo(b:Bool):GA:=⟨0,b,λ_=>false,λ_=>false,λ_ _=>false,λ_ _=>false,λ_ h=>by simp at h,λ_ h=>by simp at h,λ_ _ h=>by simp at h,λ_ _ h=>by simp at h⟩
def GA.one(f:Nat->Bool):GA:=⟨1,false,λi=>i==0,λi=>i==0,λ_ _=>false,λi c=>i==0&&f c,λi h=>by simp at h;omega,λi h=>by simp at h;omega,λ_ _ h=>by simp at h,λi c h=>by simp at h;omega⟩
def GA.seq(x y:GA):GA where
 n:=x.n+y.n
 fy:=x.fy&&y.fy
 fst i:=x.fst i || (x.fy&&(decide (x.n<=i)&&y.fst (i-x.n)))
 kM i:=(decide (x.n<=i)&&y.kM (i-x.n)) || (y.fy&&x.kM i)
 ij i j:=x.ij i j || (decide (x.n<=i)&&(decide (x.n<=j)&&y.ij (i-x.n) (j-x.n))) || (x.kM i&&(decide (x.n<=j)&&y.fst (j-x.n)))
 st i c:=x.st i c || (decide (x.n<=i)&&y.st (i-x.n) c)
 yq i h:=by
  simp only[np,fQ,pF]at h;rcases h with h|⟨-,h0,h⟩
  ·have:=x.yq _ h;omega
  ·have:=y.yq _ h;omega
 ug i h:=by
  simp only[np,fQ,pF]at h;rcases h with ⟨h0,h⟩|⟨-,h⟩
  ·have:=y.ug _ h;omega
  ·have:=x.ug _ h;omega
 tM i j h:=by
  simp only[np,fQ,pF]at h;rcases h with (h|⟨h0,h1,h⟩)|⟨h,h0,h1⟩
  ·have:=x.tM _ _ h;omega
  ·have:=y.tM _ _ h;omega
  ·have:=x.ug _ h;have:=y.yq _ h1;omega
 qH i c h:=by
  simp only[np,fQ,pF]at h;rcases h with h|⟨h0,h⟩
  ·have:=x.qH _ _ h;omega
  ·have:=y.qH _ _ h;omega
def GA.eA(x y:GA):GA where
 n:=x.n+y.n
 fy:=x.fy || y.fy
 fst i:=x.fst i || (decide (x.n<=i)&&y.fst (i-x.n))
 kM i:=x.kM i || (decide (x.n<=i)&&y.kM (i-x.n))
 ij i j:=x.ij i j || (decide (x.n<=i)&&(decide (x.n<=j)&&y.ij (i-x.n) (j-x.n)))
 st i c:=x.st i c || (decide (x.n<=i)&&y.st (i-x.n) c)
 yq i h:=by
  simp only[np,fQ,pF]at h;rcases h with h|⟨h0,h⟩
  ·have:=x.yq _ h;omega
  ·have:=y.yq _ h;omega
 ug i h:=by
  simp only[np,fQ,pF]at h;rcases h with h|⟨h0,h⟩
  ·have:=x.ug _ h;omega
  ·have:=y.ug _ h;omega
 tM i j h:=by
  simp only[np,fQ,pF]at h;rcases h with h|⟨h0,h1,h⟩
  ·have:=x.tM _ _ h;omega
  ·have:=y.tM _ _ h;omega
 qH i c h:=by
  simp only[np,fQ,pF]at h;rcases h with h|⟨h0,h⟩
  ·have:=x.qH _ _ h;omega
  ·have:=y.qH _ _ h;omega
def GA.star(x:GA):GA where
 n:=x.n
 fy:=true
 fst:=x.fst
 kM:=x.kM
 ij i j:=x.ij i j || (x.kM i&&x.fst j)
 st:=x.st
 yq:=x.yq
 ug:=x.ug
 tM i j h:=by
  simp only[np,fQ]at h;rcases h with h|⟨h,h1⟩
  ·exact x.tM _ _ h
  ·exact⟨x.ug _ h,x.yq _ h1⟩
 qH:=x.qH
def GA.Ph(x:GA):GA:={x with fy:=true}
theorem znv(x:GA):x.eA (.yo true)=x.Ph:=by
 refine GA.same (by simp[GA.eA,GA.yo,GA.Ph]) (by simp[GA.eA,GA.yo,GA.Ph]) (λi=>?_) (λi=>?_) (λi j=>?_) (λi c=>?_)<;>simp[GA.eA,GA.yo,GA.Ph]
def Tf(f:GA->GA):Nat->GA->GA
 |0,x=>x
 |k+1,x=>f (Tf f k x)
def rJ(x:GA)(mn mx:Int):GA:=if mx=-1 then Tf x.seq mn.toNat x.star else Tf x.seq mn.toNat (Tf (λr=>(x.seq r).Ph) (mx-mn).toNat (.yo true))
def iL:Pt->GA
 |.set f=>.one f
 |.seq l r=>(iL l).seq (iL r)
 |.eA l r=>(iL l).eA (iL r)
 |.jX b mn mx=>rJ (iL b) mn mx
 |.aH b _=>iL b
theorem zre(x:GA):rJ x 0 (-1)=x.star:=rfl
theorem zrf(x:GA):rJ x 0 0=.yo true:=rfl
theorem zrd(x:GA)(mn mx:Int)(h:0<mn):rJ x mn mx=x.seq (rJ x (mn-1) (if mx > 0 then mx-1 else mx))\/(0<=mx/\mx<mn):=by
 by_cases h1:mx=-1
 ·subst h1;left;obtain⟨k,rfl⟩:∃k:Nat,mn=k+1:=⟨(mn-1).toNat,by omega⟩;rw[ab (by omega),show ((k:Int)+1-1)=k from by omega];unfold rJ;rw[ae rfl,ae rfl,show ((k:Int)+1).toNat=k+1 from by omega,uA]
  rfl
 ·by_cases h2:mn<=mx
  ·left
   obtain⟨k,rfl⟩:∃k:Nat,mn=k+1:=⟨(mn-1).toNat,by omega⟩;rw[ae (by omega),show ((k:Int)+1-1)=k from by omega];unfold rJ;rw[ab h1,ab (by omega),show ((k:Int)+1).toNat=k+1 from by omega,uA,show (mx-(k+1):Int)=mx-1-k from by omega]
   rfl
  ·by_cases h3:0<=mx
   ·exact .inr ⟨h3,by omega⟩
   ·left
    obtain⟨k,rfl⟩:∃k:Nat,mn=k+1:=⟨(mn-1).toNat,by omega⟩;rw[ab (by omega),show ((k:Int)+1-1)=k from by omega];unfold rJ;rw[ab h1,ab h1,show ((k:Int)+1).toNat=k+1 from by omega,uA,show (mx-(k+1):Int).toNat=0 from by omega,show (mx-k:Int).toNat=0 from by omega]
    rfl
theorem zrc(x:GA)(mx:Int)(h:0<mx):rJ x 0 mx=(x.seq (rJ x 0 (mx-1))).eA (.yo true):=by
 obtain⟨k,rfl⟩:∃k:Nat,mx=k+1:=⟨(mx-1).toNat,by omega⟩;rw[znv];unfold rJ;rw[ab (by omega),ab (by omega),show ((k:Int)+1-0).toNat=k+1 from by omega,show ((k:Int)+1-1-0).toNat=k from by omega]
 rfl
section
variable {tk:Nat->UInt8->Prop} {ij:Nat->Nat->Prop} {D:Nat->Prop} {e:Prop} {first last:Nat->Prop} {M:GA}
end
def two(n:Nat)(φ ψ:Nat->Nat)(i:Nat):Nat:=if i<n then φ i else ψ (i-n)
section
variable {tk:Nat->UInt8->Prop} {ij zBL:Nat->Nat->Prop} {D E:Nat->Prop} {e1 e2:Prop} {f1 l1 f2 l2:Nat->Prop} {M N:GA} {φ ψ:Nat->Nat}
end
section
variable {lo p6:Nat}{w w' wr:zn}{v:zp}{rs:List (Int×Int)}{ao:Option Addr}
structure aI where
 kind:Int
 set:List (Int×Int)
 min:Int
 max:Int
 group:Int
structure cX where
 bol:Bool
 eol:Bool
 nodes:List aI
structure dC where
 branches:List cX
 jT:Int
def aI.zero:aI:=⟨0,[],0,0,0⟩
def cX.zero:cX:=⟨false,false,[]⟩
def dC.zero:dC:=⟨[],0⟩
def zfr(lo:Nat)(w:zn)(ao:Option Addr)(rs:List (Int×Int)):Prop:=
 0<rs.length->∃b o,ao=zh ⟨b,o,za⟩/\lo<=b/\b<w.heap.size/\
  ∀i,i<rs.length->w.cell? ⟨b,o+i*2,za⟩=zh (zi .i64 (rs.getD i (0,0)).1)/\w.cell? ⟨b,o+i*2+1,za⟩=zh (zi .i64 (rs.getD i (0,0)).2)
def nk(lo:Nat)(w:zn)(v:zp)(rs:List (Int×Int)):Prop:=∃ao cap,v=.slice ao rs.length cap/\rs.length<=9223372036854775807/\zfr lo w ao rs
def zgx(lo:Nat)(w:zn)(ao:Option Addr)(ns:List aI):Prop:=
 0<ns.length->∃b o,ao=zh ⟨b,o,za⟩/\lo<=b/\b<w.heap.size/\
  ∀i,i<ns.length->w.cell? ⟨b,o+i*5,za⟩=zh (zi .i64 (ns.getD i .zero).kind)/\
   (∃sv,w.cell? ⟨b,o+i*5+1,za⟩=zh sv/\nk lo w sv (ns.getD i .zero).set)/\
   w.cell? ⟨b,o+i*5+2,za⟩=zh (zi .i64 (ns.getD i .zero).min)/\w.cell? ⟨b,o+i*5+3,za⟩=zh (zi .i64 (ns.getD i .zero).max)/\
   w.cell? ⟨b,o+i*5+4,za⟩=zh (zi .i64 (ns.getD i .zero).group)
def nX(lo:Nat)(w:zn)(v:zp)(ns:List aI):Prop:=∃ao cap,v=.slice ao ns.length cap/\ns.length<=9223372036854775807/\zgx lo w ao ns
def zeG(lo:Nat)(w:zn)(ao:Option Addr)(bs:List cX):Prop:=
 0<bs.length->∃b o,ao=zh ⟨b,o,za⟩/\lo<=b/\b<w.heap.size/\
  ∀i,i<bs.length->w.cell? ⟨b,o+i*3,za⟩=zh (.bool (bs.getD i .zero).bol)/\w.cell? ⟨b,o+i*3+1,za⟩=zh (.bool (bs.getD i .zero).eol)/\
   (∃nv,w.cell? ⟨b,o+i*3+2,za⟩=zh nv/\nX lo w nv (bs.getD i .zero).nodes)
def jd(lo:Nat)(w:zn)(v:zp)(bs:List cX):Prop:=∃ao cap,v=.slice ao bs.length cap/\bs.length<=9223372036854775807/\zeG lo w ao bs
theorem nk.same(h:nk lo w v rs)(hb:Same lo w w'):nk lo w' v rs:=by
 obtain⟨ao,cap,rfl,hm,h⟩:=h;refine⟨ao,cap,rfl,hm,λh0=>?_⟩;obtain⟨b,o,rfl,eK,hlt,hc⟩:=h h0;refine⟨b,o,rfl,eK,fR hlt hb.size,λi hi=>?_⟩;obtain⟨c0,c1⟩:=hc i hi;exact⟨(hb.cell (by exact eK) (by exact hlt)).trans c0,(hb.cell (by exact eK) (by exact hlt)).trans c1⟩
theorem nX.same{ns:List aI}(h:nX lo w v ns)(hb:Same lo w w'):nX lo w' v ns:=by
 obtain⟨ao,cap,rfl,hm,h⟩:=h;refine⟨ao,cap,rfl,hm,λh0=>?_⟩;obtain⟨b,o,rfl,eK,hlt,hc⟩:=h h0;refine⟨b,o,rfl,eK,fR hlt hb.size,λi hi=>?_⟩;obtain⟨c0,⟨sv,c1,hs⟩,c2,c3,c4⟩:=hc i hi;have hcell:∀off,w'.cell? ⟨b,off,za⟩=w.cell? ⟨b,off,za⟩:=λoff=>hb.cell (by exact eK) (by exact hlt)
 exact⟨(hcell _).trans c0,⟨sv,(hcell _).trans c1,hs.same hb⟩,(hcell _).trans c2,(hcell _).trans c3,(hcell _).trans c4⟩
theorem jd.same{bs:List cX}(h:jd lo w v bs)(hb:Same lo w w'):jd lo w' v bs:=by
 obtain⟨ao,cap,rfl,hm,h⟩:=h;refine⟨ao,cap,rfl,hm,λh0=>?_⟩;obtain⟨b,o,rfl,eK,hlt,hc⟩:=h h0;refine⟨b,o,rfl,eK,fR hlt hb.size,λi hi=>?_⟩;obtain⟨c0,c1,⟨nv,c2,hn⟩⟩:=hc i hi;have hcell:∀off,w'.cell? ⟨b,off,za⟩=w.cell? ⟨b,off,za⟩:=λoff=>hb.cell (by exact eK) (by exact hlt)
 exact⟨(hcell _).trans c0,(hcell _).trans c1,⟨nv,(hcell _).trans c2,hn.same hb⟩⟩
theorem nk.below(h:nk lo w v rs)(hb:Below w.heap.size w w'):nk lo w' v rs:=h.same (.wT hb)
theorem nX.below{ns:List aI}(h:nX lo w v ns)(hb:Below w.heap.size w w'):nX lo w' v ns:=h.same (.wT hb)
theorem jd.below{bs:List cX}(h:jd lo w v bs)(hb:Below w.heap.size w w'):jd lo w' v bs:=h.same (.wT hb)
theorem nk.mono(h:nk lo w v rs)(hl:p6<=lo):nk p6 w v rs:=by
 obtain⟨ao,cap,rfl,hm,h⟩:=h;refine⟨ao,cap,rfl,hm,λh0=>?_⟩;obtain⟨b,o,rfl,eK,r⟩:=h h0;exact⟨b,o,rfl,cM hl eK,r⟩
theorem nX.mono{rs:List aI}(h:nX lo w v rs)(hl:p6<=lo):nX p6 w v rs:=by
 obtain⟨ao,cap,rfl,hm,h⟩:=h;refine⟨ao,cap,rfl,hm,λh0=>?_⟩;obtain⟨b,o,rfl,eK,hlt,hc⟩:=h h0;refine⟨b,o,rfl,cM hl eK,hlt,λi hi=>?_⟩;obtain⟨c0,⟨sv,c1,hs⟩,r⟩:=hc i hi;exact⟨c0,⟨sv,c1,hs.mono hl⟩,r⟩
theorem zfr.elem(h:zfr lo w ao rs)(hb:Below w.heap.size w wr){k:Nat}(hk:k<rs.length):
  ∃(b o:Nat) (lo hi:Int),ao=zh ⟨b,o,za⟩/\Hid (rs.getD k (0,0)=(lo,hi))/\b<w.heap.size/\wr.cell? ⟨b,o+k*2,za⟩=zh (zi .i64 lo)/\wr.cell? ⟨b,o+k*2+1,za⟩=zh (zi .i64 hi):=by
 obtain⟨b,o,rfl,_,hlt,hc⟩:=h (by omega);obtain⟨c0,c1⟩:=hc k hk;exact⟨b,o,_,_,rfl,rfl,hlt,(hb.cell (by exact hlt)).trans c0,(hb.cell (by exact hlt)).trans c1⟩
theorem zgx.elem{ns:List aI}(h:zgx lo w ao ns)(hb:Below w.heap.size w wr){k:Nat}(hk:k<ns.length):
  ∃(b o:Nat) (sv:zp) (nd:aI),ao=zh ⟨b,o,za⟩/\Hid (ns.getD k .zero=nd)/\b<w.heap.size/\wr.cell? ⟨b,o+k*5,za⟩=zh (zi .i64 nd.kind)/\wr.cell? ⟨b,o+k*5+1,za⟩=zh sv/\
   wr.cell? ⟨b,o+k*5+2,za⟩=zh (zi .i64 nd.min)/\wr.cell? ⟨b,o+k*5+3,za⟩=zh (zi .i64 nd.max)/\wr.cell? ⟨b,o+k*5+4,za⟩=zh (zi .i64 nd.group)/\nk lo wr sv nd.set:=by
 obtain⟨b,o,rfl,_,hlt,hc⟩:=h (by omega);obtain⟨c0,⟨sv,c1,hs⟩,c2,c3,c4⟩:=hc k hk;exact⟨b,o,sv,_,rfl,rfl,hlt,(hb.cell (by exact hlt)).trans c0,(hb.cell (by exact hlt)).trans c1,(hb.cell (by exact hlt)).trans c2,(hb.cell (by exact hlt)).trans c3,(hb.cell (by exact hlt)).trans c4,hs.below hb⟩
theorem zeG.elem{bs:List cX}(h:zeG lo w ao bs)(hb:Below w.heap.size w wr){k:Nat}(hk:k<bs.length):
  ∃(b o:Nat) (nv:zp) (bd:cX),ao=zh ⟨b,o,za⟩/\Hid (bs.getD k .zero=bd)/\b<w.heap.size/\wr.cell? ⟨b,o+k*3,za⟩=zh (.bool bd.bol)/\wr.cell? ⟨b,o+k*3+1,za⟩=zh (.bool bd.eol)/\
   wr.cell? ⟨b,o+k*3+2,za⟩=zh nv/\nX lo wr nv bd.nodes:=by
 obtain⟨b,o,rfl,_,hlt,hc⟩:=h (by omega);obtain⟨c0,c1,⟨nv,c2,hn⟩⟩:=hc k hk;exact⟨b,o,nv,_,rfl,rfl,hlt,(hb.cell (by exact hlt)).trans c0,(hb.cell (by exact hlt)).trans c1,(hb.cell (by exact hlt)).trans c2,hn.below hb⟩
end
theorem jd.mono{lo p6:Nat}{w:zn}{v:zp}{rs:List cX}(h:jd lo w v rs)(hl:p6<=lo):jd p6 w v rs:=by
 obtain⟨ao,cap,rfl,hm,h⟩:=h;refine⟨ao,cap,rfl,hm,λh0=>?_⟩;obtain⟨b,o,rfl,eK,hlt,hc⟩:=h h0;refine⟨b,o,rfl,cM hl eK,hlt,λi hi=>?_⟩;obtain⟨c0,c1,⟨sv,c2,hs⟩⟩:=hc i hi;exact⟨c0,c1,⟨sv,c2,hs.mono hl⟩⟩
def Small(bs:List cX):Prop:=bs.length<=1048576/\∀i,i<bs.length->(bs.getD i .zero).nodes.length<=1048576/\∀j,j<(bs.getD i .zero).nodes.length->((bs.getD i .zero).nodes.getD j .zero).set.length<=1048576
section
attribute [local go_sem ↓] wp_at_zero wp_at_succ
end
def aV(k:Int):Nat:=if k=2\/k=3 then 2 else if k=4\/k=5 then 1 else 0
def oM(mn mx:Int):Int:=if mx=-1 then mn+1 else if mx<1 then 1 else mx
def oh(n:Int):Int:=if n<=2001 then n else 2001
def ly(mn mx:Int):Bool:=decide (0<=mn/\mn<=255)&&decide (mx=-1\/(mn<=mx/\mx<=255))
theorem zql(k:Int):aV k<=2:=by unfold aV;split<;>(try split)<;>omega
theorem T7(k:Int)(w:zn):Calls prog 88 #[zi .i64 k] w λe w'=>e=.returned (zi .i64 (aV k))/\w'=w:=by
 by_cases h2:k=2
 ·subst h2;go_enter func88,ntmps88;go_wp2;go_ret;exact⟨rfl,rfl⟩
 by_cases h3:k=3
 ·subst h3;go_enter func88,ntmps88;go_wp2;go_ret;exact⟨rfl,rfl⟩
 by_cases h4:k=4
 ·subst h4;go_enter func88,ntmps88;go_wp2;go_ret;exact⟨rfl,rfl⟩
 by_cases h5:k=5
 ·subst h5;go_enter func88,ntmps88;go_wp2;go_ret;exact⟨rfl,rfl⟩
 have e2:(k==2)=false:=lX.2 h2;have e3:(k==3)=false:=lX.2 h3;have e4:(k==4)=false:=lX.2 h4;have e5:(k==5)=false:=lX.2 h5;have ha:Hid (aV k=0):=by show _=_;simp[aV,h2,h3,h4,h5]
 clear h2 h3 h4 h5
 go_enter func88,ntmps88
 go_wp2;go_ret;exact⟨gq (by rw[ha.out];rfl),rfl⟩
theorem zop(k mn mx g:Int)(sv:zp)(w:zn)(h0:0<=mn)(h1:mn<=255):
  Calls prog 79 #[.agg #[zi .i64 k,sv,zi .i64 mn,zi .i64 mx,zi .i64 g]] w λe w'=>e=.returned (zi .i64 (oM mn mx))/\Below w.heap.size w w':=by
 rcases(show mx=-1\/(mx≠-1/\mx<1)\/(mx≠-1/\1<=mx) by omega) with rfl|⟨ha,hb⟩|⟨ha,hb⟩
 all_goals
  go_enter func79,ntmps79
  go_wp2;go_ret;refine⟨gq ?_,aC⟩;simp[oM]<;>omega
end Go.Proofs.Ytfajjdgkiilhfaa
