import Derived.Test.YtdimhpfiieepiaaGreatDoorC39
import Derived.WalkMore
import Derived.Lib.ConvBytes
namespace Go.Proofs.YtdimhpfiieepiaaGreatDoor
open Proofs.Tryz
open Value renaming int->za,slice->zf,agg->zk
open Option renaming none->zb,some->zd
open Go renaming Value->zc,World->ze,Calls->zj
open RowKit renaming Below->zg,Hid->zh
open Obj renaming cells->zi
set_option maxHeartbeats 2000000
set_option maxRecDepth 100000
open Go.RowKit
attribute [local go_sem ↓] wp_at_zero wp_at_succ
section
variable {B sz g n cap:Nat}{W:ze}{v:zc}{rs:List (Int×Int)}{xs:List zc}
def Az(B:Nat)(W:ze)(v:zc)(rs:List (Int×Int)):Prop:=W.ownsRow B 71 2 v rs.length (pv rs)
theorem IB{p:Prop}(h:p):zh p:=h
theorem zpX(rs:List (Int×Int))(i:Nat)(h:i<rs.length):(pv rs)[i*2]?=zd (za .i64 (rs.getD i (0,0)).1)/\(pv rs)[i*2+1]?=zd (za .i64 (rs.getD i (0,0)).2):=⟨Rm rs (j:=0) h (by omega),Rm rs (j:=1) h (by omega)⟩
theorem Az.read(h:Az B W v rs)(hn:rs.length<=1048576):dR B W v rs:=by
 rcases h.2 with ⟨rfl,h0⟩|⟨g,cap,ax,rfl,hg,hh,h1,h2,h3,h4⟩
 ·have hr:rs=[]:=BZ h0;subst hr;exact⟨zb,0,rfl,by simp,λh=>absurd h (by simp)⟩
 ·refine⟨zd ⟨g,0,zb⟩,cap,rfl,by omega,λ_=>⟨g,0,rfl,hg,(ah.1 hh).1,λi hi=>?_⟩⟩;have e:=zpX rs i hi;have c0:=h.cellAt (i*2) (by omega);have c1:=h.cellAt (i*2+1) (by omega);rw[e.1]at c0;rw[e.2]at c1;exact⟨by rw[jw];exact c0,by rw[jw];exact c1⟩
theorem Jh{e:TypeId}(h:W.ownsRow B e sz (zf (zd ⟨g,0,zb⟩) n cap) n xs)(j:Nat)(u:zc):(W.setCell ⟨g,j,zb⟩ u).ownsRow B e sz (zf (zd ⟨g,0,zb⟩) n cap) n (xs.set j u):=by
 refine⟨by rw[DX];exact h.1,?_⟩;rcases h.2 with ⟨e,_⟩|⟨g',cap',ax,e,hg,hh,h1,h2,h3,h4⟩
 ·cases e
 ·cases e
  refine .inr ⟨g,cap,ax.setIfInBounds j u,rfl,hg,dE _ _ _ _ _ _ hh,h1,h2,by simp[h3],?_⟩;rw[Array.toList_setIfInBounds,List.take_set,h4]
def wG(k:Int)(xs:List zc)(a:Nat):List zc:=(List.range xs.length).map λj=>if j<a then za .i64 (k+(j:Int)) else xs.getD j undef
theorem zpB(k:Int)(xs:List zc):wG k xs 0=xs:=by
 unfold wG;apply List.ext_getElem
 ·simp
 ·intro n h1 h2;simp[List.getD,h2]
theorem zmu(k:Int)(xs:List zc)(a:Nat):(wG k xs a).set a (za .i64 (k+(a:Int)))=wG k xs (a+1):=by
 unfold wG;apply List.ext_getElem
 ·simp
 ·intro n h1 h2;rw[List.getElem_set]
  by_cases e:a=n
  ·subst e;simp
  ·rw[ak e];simp only[List.getElem_map,List.getElem_range]
   by_cases e2:n<a
   ·rw[aC e2,aC (by omega)]
   ·rw[ak e2,ak (by omega)]
def r8(n:Nat)(k:Int):List (Int×Int):=(List.range n).map λ(j:Nat)=>(k+2*(j:Int),k+2*(j:Int)+1)
theorem Gc(n:Nat)(k:Int):(r8 n k).length=n:=by simp[r8]
theorem zrC(k:Int)(rs:List (Int×Int)):wG k (pv rs) (rs.length*2)=pv (r8 rs.length k):=by
 apply DY
 intro m
 by_cases hm:m<rs.length*2
 ·have hL:(wG k (pv rs) (rs.length*2))[m]?=zd (za .i64 (k+(m:Int))):=by
   unfold wG;rw[yA,List.getElem?_range (by rw[BQ];exact hm)];simp[hm]
  rw[hL];have hi:m/2<(r8 rs.length k).length:=by rw[Gc];omega
  have hg:=zpX (r8 rs.length k) (m/2) hi;have hv:(r8 rs.length k).getD (m/2) (0,0)=(k+2*((m/2:Nat):Int),k+2*((m/2:Nat):Int)+1):=by
   unfold r8;have:m/2<rs.length:=by omega
   simp[List.getD,this]
  rw[hv]at hg;rcases Nat.mod_two_eq_zero_or_one m with e|e
  ·have:=hg.1;rw[show m/2*2=m by omega]at this;rw[this]
   congr 2
   omega
  ·have:=hg.2;rw[show m/2*2+1=m by omega]at this;rw[this]
   congr 2
   omega
 ·rw[qw (by unfold wG;simp[BQ];omega),qw (by rw[BQ,Gc];omega)]
theorem zhX{e:TypeId}(h:W.ownsRow B e sz (zf (zd ⟨g,0,zb⟩) n cap) n xs){j:Nat}(hj:j<n*sz):(∃u,W.cell? ⟨g,j,zb⟩=zd u)/\W.frozen? ⟨g,j,zb⟩=false:=by
 refine⟨?_,?_⟩
 ·have:=h.cellAt j hj;rw[this,dh (by rw[h.1];exact hj)];exact⟨_,rfl⟩
 ·rcases h.2 with ⟨e,_⟩|⟨g',cap',ax,e,hg,hh,_⟩
  ·cases e
  ·cases e;exact cT _ _ _ _ _ hh
theorem zgD(W:ze)(row:Option Nat):W.grownBy W row:=⟨rfl,rfl,rfl,aj _,λ_ _ _=>rfl⟩
theorem zfS{w':ze}(h:W.grownBy w' (zd g))(o:Nat)(u:zc):W.grownBy (w'.setCell ⟨g,o,zb⟩ u) (zd g):=
 ⟨h.os,h.tape,h.output,by simpa [World.setCell]using h.size,λk hk hr=>by rw[cH _ _ _ _ (λe=>hr (by rw[e]))];exact h.block k hk hr⟩
theorem zjY(k:Int)(w:ze)(h:Az B w v rs)(hk:0<=k/\k<=1000000000)(hn:rs.length<=100000):
  zj prog 44 #[v,za .i64 k] w λe w'=>e=.returned (za .i64 (k+2*(rs.length:Int)))/\Az B w' v (r8 rs.length k)/\w.grownBy w' v.ownBlock:=by
 rcases h.2 with ⟨rfl,h0⟩|⟨g,cap,ax,rfl,hg,hh,h1,h2,h3,h4⟩
 ·have hr:rs=[]:=BZ h0;subst hr;clear h h0
  go_enter func44,ntmps44
  go_wp2
  go_loopw [1,5] (λkv iv wr=>kv=za .i64 k/\iv=za .i64 0/\wr=w) (λ_ _ _=>0)
  case atStart=>exact⟨rfl,rfl,rfl⟩
  case round=>
   obtain⟨rfl,rfl,rfl⟩:=hrel;go_wp2;go_ret;exact⟨by simp,⟨rfl,.inl ⟨rfl,rfl⟩⟩,zgD _ _⟩
 ·obtain⟨n,Bq⟩:∃n,n=rs.length:=⟨_,rfl⟩;have hO:w.ownsRow B 71 2 (zf (zd ⟨g,0,zb⟩) n cap) n (pv rs):=by rw[Bq];exact h
  have Zf:zh (w.ownsRow B 71 2 (zf (zd ⟨g,0,zb⟩) n cap) n (wG k (pv rs) 0)):=by rw[zpB];exact hO
  have kX:(pv rs).length=n*2:=by rw[BQ,Bq]
  have HRL:=IB kX;have zyj:zh (wG k (pv rs) (n*2)=pv (r8 n k)):=by rw[Bq];exact zrC k rs
  have n8:n<=100000:=by omega
  rw[<-Bq];have Hnn:=IB Bq;clear hh h3 h4 hO h kX Bq hn
  go_enter func44,ntmps44
  go_wp2
  go_loopw [1,5] (λkv iv wr=>∃i:Nat,i<=n/\kv=za .i64 (k+2*(i:Int))/\iv=za .i64 (i:Int)/\zh (wr.ownsRow B 71 2 (zf (zd ⟨g,0,zb⟩) n cap) n (wG k (pv rs) (i*2)))/\zh (w.grownBy wr (zd g))) (λ_ iv _=>n-(intOf iv).toNat)
  case atStart=>exact⟨0,by omega,by go_num,rfl,Zf,zgD _ _⟩
  case round=>
   clear Zf;obtain⟨i,hi,rfl,rfl,HO,HG⟩:=hrel
   by_cases hlt:i<n
   ·have zzX:(i:Int)<(n:Int):=by omega
    obtain⟨⟨u0,c0⟩,f0⟩:=zhX HO.out (j:=i*2) (by omega);have GK:=Jh HO.out (i*2) (za .i64 (k+2*(i:Int)));rw[show k+2*(i:Int)=k+((i*2:Nat):Int) by omega,zmu]at GK;have RX:=IB GK;clear GK;have RP:=IB (zfS HG.out (i*2) (za .i64 (k+2*(i:Int))));rw[show k+((i*2:Nat):Int)=k+2*(i:Int) by omega]at RX
    go_upto_region 5 with fail
    generalize wr.setCell ⟨g,i*2,zb⟩ (za .i64 (k+2*(i:Int)))=W2 at *;clear c0 f0;obtain⟨⟨u1,c1⟩,f1⟩:=zhX RX.out (j:=i*2+1) (by omega);have yK:=Jh RX.out (i*2+1) (za .i64 (k+2*(i:Int)+1));rw[show k+2*(i:Int)+1=k+((i*2+1:Nat):Int) by omega,zmu]at yK;rw[show k+((i*2+1:Nat):Int)=k+2*(i:Int)+1 by omega,show i*2+1+1=(i+1)*2 by omega]at yK;have zyl:=IB yK;have Af:=IB (zfS RP.out (i*2+1) (za .i64 (k+2*(i:Int)+1)));clear yK HG HO;go_wp2
    go_roundw
    case rel=>exact⟨i+1,by omega,by congr 1;omega,by go_num,zyl,Af⟩
    case measure=>simp[intOf];omega
   ·have jX:i=n:=by omega
    subst jX;go_wp2;go_ret;exact⟨rfl,by show World.ownsRow _ _ _ _ _ _ _;rw[Gc,<-zyj.out];exact HO.out,HG.out⟩
theorem zrA(n:Nat)(k:Int){i:Nat}(h:i<n):(r8 n k).getD i (0,0)=(k+2*(i:Int),k+2*(i:Int)+1):=by
 unfold r8;simp[List.getD,h]
theorem zjK{lo:Nat}(k:Int)(w:ze)(h:dR lo w v (r8 n k))(hk:0<=k/\k<=1000000000)(hn:n<=100000):
  zj prog 45 #[v,za .i64 k] w λe w'=>e=.returned (za .i64 (k+2*(n:Int)))/\w'=w:=by
 obtain⟨ao,cap,rfl,hm,hc⟩:=h;rw[Gc]at hm ⊢;have HC:zh (0<n->∃b o,ao=zd ⟨b,o,zb⟩/\∀i,i<n->w.cell? ⟨b,o+i*2,zb⟩=zd (za .i64 (k+2*(i:Int)))/\w.cell? ⟨b,o+i*2+1,zb⟩=zd (za .i64 (k+2*(i:Int)+1))):=λh0=>by
  obtain⟨b,o,e,_,_,h9⟩:=hc (by rw[Gc];exact h0);refine⟨b,o,e,λi hi=>?_⟩;have h8:=h9 i (by rw[Gc];exact hi);rw[zrA n k hi]at h8;exact h8
 clear hc hm
 go_enter func45,ntmps45
 go_wp2
 go_loopw [1,5] (λkv iv wr=>∃i:Nat,i<=n/\kv=za .i64 (k+2*(i:Int))/\iv=za .i64 (i:Int)/\wr=w) (λ_ iv _=>n-(intOf iv).toNat)
 case atStart=>exact⟨0,by omega,by go_num,rfl,rfl⟩
 case round=>
  obtain⟨i,hi,rfl,rfl,rfl⟩:=hrel
  by_cases hlt:i<n
  ·have zzX:(i:Int)<(n:Int):=by omega
   obtain⟨b,o,rfl,h9⟩:=HC.out (by omega);obtain⟨c0,c1⟩:=h9 i hlt;clear h9 HC;go_wp2
   go_roundw
   case rel=>exact⟨i+1,by omega,by congr 1;omega,by go_num,trivial⟩
   case measure=>simp[intOf];omega
  ·have jX:i=n:=by omega
   subst jX;go_wp2;go_ret;exact⟨rfl,rfl⟩
end
theorem zkt{lo:Nat}(ao:Option Addr)(rc:Nat)(cv bv fv tv ev nv kv:zc)(rs:List bi)(d:bj)(w:ze)(hr:fU lo w (.slice ao rs.length rc) rs)(hs:fV lo w cv bv fv tv ev nv kv d):
  zj prog 5 #[zk #[.slice ao rs.length rc,cv,za .i64 d.width,bv,fv,tv,ev,nv,kv],za .i64 1048576] w λe w'=>∃r:Int,e=.returned (za .i64 r)/\-1<=r/\r<=1048576/\(0<=r->pC rs/\zP d/\tp rs<=4194304)/\zg w.heap.size w w':=by
 obtain⟨W0,ai⟩:∃W0,w.alloc (zi #[.slice ao rs.length rc,cv,za .i64 d.width,bv,fv,tv,ev,nv,kv] 27)=W0:=⟨_,rfl⟩;have af:zg w.heap.size w W0:=by rw[<-ai];exact aw
 have r0:W0.heap[w.heap.size]?=zd (zi #[.slice ao rs.length rc,cv,za .i64 d.width,bv,fv,tv,ev,nv,kv] 27 (0,0)):=by rw[<-ai];exact aI _ _
 have c1:=zn9 (.slice ao rs.length rc) rs 1048576 W0 (hr.below af) (by omega) (by omega);have c2:=λl W (hb:zg w.heap.size w W) (h0:0<=l) (h1:l<=1048576)=>zoa cv bv fv tv ev nv kv d l W (hs.below hb) h0 h1
 have b1:=zlV rs 1048576 (by omega);have Z9:zh (0<=tY rs 1048576->pC rs/\tp rs<=4194304):=λh=>⟨zn8 h,zsV h⟩
 obtain⟨q0,q1,q2,q3,q4,q5,q6,q7,q8⟩:=jL r0;clear hr hs;generalize tY rs 1048576=l at *
 go_enter func5,ntmps5
 go_wp2_with fail
 refine c1.mono ?_;rintro e w1 ⟨rfl,ag⟩;have fu:=aq af af.size ag;clear q0 q1 q2 q3 q4 q5 q6 q7 q8 ai c1
 by_cases hl:l<0
 ·go_wp2;go_ret;exact⟨-1,rfl,by omega,by omega,λh=>by omega,fu⟩
 have c2:=c2 l w1 fu (by omega) (by omega);have b2:=zmO d.lists l (by omega);have Hts:zh (0<=kP d.lists l->zP d):=λh=>zg9 d.lists l (by omega) (by omega) h
 obtain⟨q0,q1,q2,q3,q4,q5,q6,q7,q8⟩:=jL (ck r0 ag);generalize kP d.lists l=m at *
 go_wp2_with fail
 refine c2.mono ?_;rintro e w2 ⟨rfl,ae⟩;have dg:=aq fu fu.size ae;clear c2 q0 q1 q2 q3 q4 q5 q6 q7 q8
 by_cases hm:m<0
 ·go_wp2;go_ret;exact⟨-1,rfl,by omega,by omega,λh=>by omega,dg⟩
 ·go_wp2;go_ret;exact⟨m,rfl,by omega,by omega,λh=>⟨(Z9.out (by omega)).1,Hts.out (by omega),(Z9.out (by omega)).2⟩,dg⟩
theorem Cx.keep{lo T T' cE:Nat}{w W:ze}{v:zc}{rs:List bi}(h:Cx lo T w v rs)(hl:cE<=lo)(hT:T<=T')(hk:∀(b:Nat) (o:Obj),lo<=b->b<T->w.heap[b]?=zd o->W.heap[b]?=zd o):Cx cE T' W v rs:=by
 obtain⟨ao,cap,rfl,h⟩:=h;refine⟨ao,cap,rfl,λh0=>?_⟩;obtain⟨b,o,cs,rfl,h1,h2,h3,h4,h5⟩:=h h0;refine⟨b,o,cs,rfl,by omega,by omega,hk b _ h1 h2 h3,h4,λi hi=>?_⟩;obtain⟨g1,sv,g2,g3⟩:=h5 i hi;exact⟨g1,sv,g2,g3.keep hl hT hk⟩
theorem fL.same{lo:Nat}{w w':ze}{v:zc}{xs:List Int}(h:fL lo w v xs)(hs:Same lo w w'):fL lo w' v xs:=⟨h.1.same hs,h.2.keep (aj _) hs.size λb _ h1 h2 e=>(hs.block b h1 h2).trans e⟩
structure rF(lo:Nat)(w:ze)(rv cv bv fv tv ev nv kv:zc)(rs:List bi)(d:bj):Prop where
 I9:fU lo w rv rs
 Wl:Cx lo w.heap.size w rv rs
 jK:wS lo w cv bv fv tv ev nv kv d
section
variable {lo cE:Nat} {w w':ze} {rv cv bv fv tv ev nv kv:zc} {rs:List bi} {d:bj}
theorem wS.same(h:wS lo w cv bv fv tv ev nv kv d)(hs:Same lo w w'):wS lo w' cv bv fv tv ev nv kv d:=⟨h.1.same hs,h.2.same hs,h.3.same hs,h.4.same hs,h.5.same hs,h.6.same hs,h.7.same hs⟩
theorem wS.mono(h:wS lo w cv bv fv tv ev nv kv d)(hl:cE<=lo):wS cE w cv bv fv tv ev nv kv d:=⟨h.1.mono hl,h.2.mono hl,h.3.mono hl,h.4.mono hl,h.5.mono hl,h.6.mono hl,h.7.mono hl⟩
theorem rF.same(h:rF lo w rv cv bv fv tv ev nv kv rs d)(hs:Same lo w w'):rF lo w' rv cv bv fv tv ev nv kv rs d:=
 ⟨h.I9.same hs,h.Wl.keep (aj _) hs.size λb _ h1 h2 e=>(hs.block b h1 h2).trans e,h.jK.same hs⟩
theorem rF.mono(h:rF lo w rv cv bv fv tv ev nv kv rs d)(hl:cE<=lo):rF cE w rv cv bv fv tv ev nv kv rs d:=⟨h.I9.mono hl,h.Wl.keep hl (aj _) λ_ _ _ _ e=>e,h.jK.mono hl⟩
theorem rF.below(h:rF lo w rv cv bv fv tv ev nv kv rs d)(hb:zg w.heap.size w w'):rF lo w' rv cv bv fv tv ev nv kv rs d:=h.same (.bR hb)
end
theorem zkA{lo:Nat}(ao:Option Addr)(rc:Nat)(cv bv fv tv ev nv kv:zc)(rs:List bi)(d:bj)(w:ze)(hr:fU lo w (.slice ao rs.length rc) rs)(hsm:pC rs)(hs:fV lo w cv bv fv tv ev nv kv d)(pw:zP d):
  zj prog 8 #[zk #[.slice ao rs.length rc,cv,za .i64 d.width,bv,fv,tv,ev,nv,kv]] w λe w'=>∃jD xX uA qD mL vi uC qT uY,e=.returned (zk #[.slice jD rs.length xX,uA,za .i64 d.width,qD,mL,vi,uC,qT,uY])/\rF w.heap.size w' (.slice jD rs.length xX) uA qD mL vi uC qT uY rs d/\zg w.heap.size w w':=by
 have T:=vJ.new w 27 41 41 #[.slice ao rs.length rc,cv,za .i64 d.width,bv,fv,tv,ev,nv,kv] #[zf zb 0 0,zf zb 0 0,za .i64 0,zf zb 0 0,zf zb 0 0,zf zb 0 0,zf zb 0 0,zf zb 0 0,zf zb 0 0] #[zf zb 0 0,zf zb 0 0,za .i64 0,zf zb 0 0,zf zb 0 0,zf zb 0 0,zf zb 0 0,zf zb 0 0,zf zb 0 0]
 go_enter func8,ntmps8
 go_wp2_with fail
 refine(zoe _ rs _ (hr.below T.below) hsm).mono ?_;rintro e w1 ⟨v0,rfl,dx,wy,hb⟩;have hz:=T.size;have mh:Cx (w.heap.size+1+1+1) w1.heap.size w1 v0 rs:=wy.keep hz (aj _) λ_ _ _ _ e=>e
 have eT:=dx.mono hz;replace T:=T.call hb;clear hb dx wy;obtain⟨uq,xq,rfl,eQ,xE⟩:=eT;have eT:fU (w.heap.size+1+1+1) w1 (.slice uq rs.length xq) rs:=⟨_,_,rfl,eQ,xE⟩;clear xE eQ;obtain⟨c0,c1,c2,f1,f2⟩:=T.cells
 go_wp2_with fail
 clear c0 c1 c2 f1 f2;replace T:=T.set 0 (.slice uq rs.length xq);have CX:Same (w.heap.size+1+1+1) w1 (w1.setCell ⟨w.heap.size+1+1,0,zb⟩ (.slice uq rs.length xq)):=Same.setCell w1 (by simp) _;replace eT:=eT.same CX;replace mh:=mh.keep (aj _) CX.size λb _ h1 h2 e=>(CX.block b h1 h2).trans e
 refine(zlZ cv bv fv tv ev nv kv d _ (hs.below T.below) pw).mono ?_;rintro e w2 ⟨uA,qD,mL,vi,uC,qT,uY,rfl,PT,ae⟩;have aO:=T.size;replace T:=T.call ae;have M:rF (w.heap.size+1+1+1) w2 (.slice uq rs.length xq) uA qD mL vi uC qT uY rs d:=⟨eT.below ae,mh.keep (aj _) ae.size λb _ _ h2 e=>(ae.block b h2).trans e,PT.mono aO⟩;obtain⟨⟨⟨a0,p0,rfl,_⟩,_⟩,⟨⟨a1,p1,rfl,_⟩,_⟩,⟨⟨a2,p2,rfl,_⟩,_⟩,⟨⟨a3,p3,rfl,_⟩,_⟩,⟨⟨a4,p4,rfl,_⟩,_⟩,⟨⟨a5,p5,rfl,_⟩,_⟩,⟨⟨a6,p6,rfl,_⟩,_⟩⟩:=PT;have HM:=ay M;obtain⟨c0,c1,c2,f1,f2⟩:=T.cells;have HT:=ay T.below;clear M ae eT mh CX;go_wp2;refine bh (v:=zk #[.slice uq rs.length xq,.slice a0 d.cG.length p0,za .i64 d.width,.slice a1 d.base.length p1,.slice a2 d.cA.length p2,.slice a3 d.tag.length p3,.slice a4 d.fin.length p4,.slice a5 d.next.length p5,.slice a6 d.bH.length p6]) (by simp[results,results8,go_sem,c1]) rfl ⟨uq,xq,_,_,_,_,_,_,_,rfl,?_,?_⟩
 ·refine rF.mono (lo:=w.heap.size+1+1+1) (HM.out.same ?_) (by omega)
  iterate 17 refine Same.trans ?_ (Same.setCell _ (by simp) _)
  exact⟨aj _,λ_ _ _=>rfl⟩
 ·iterate 17 refine Below.setCell ?_ (by simp<;>omega) _
  exact HT.out
section
variable {lo T l1 l2:Nat}{W:ze}{cv bv fv tv ev nv kv:zc}{d:bj}
theorem eD.kJ{w:ze}(h:eD lo T w W):ap (λk=>lo<=k/\k<T) w W:=⟨h.os,h.tape,h.output,h.size,λk hk hn=>h.out k hk (by omega)⟩
structure AC(lo T:Nat)(w:ze)(cv bv fv tv ev nv kv:zc)(d:bj):Prop where
 cG:rB lo T w cv d.cG.length
 base:rB lo T w bv d.base.length
 cA:rB lo T w fv d.cA.length
 tag:rB lo T w tv d.tag.length
 fin:rB lo T w ev d.fin.length
 next:rB lo T w nv d.next.length
 bH:rB lo T w kv d.bH.length
theorem AC.mk'{w:ze}(h:AC lo T w cv bv fv tv ev nv kv d)(k:eD lo T w W):AC lo T W cv bv fv tv ev nv kv d:=⟨h.1.mk k,h.2.mk k,h.3.mk k,h.4.mk k,h.5.mk k,h.6.mk k,h.7.mk k⟩
theorem AC.keep{w:ze}(h:AC lo T w cv bv fv tv ev nv kv d)(hk:∀(b:Nat) (o:Obj),lo<=b->b<T->w.heap[b]?=zd o->W.heap[b]?=zd o):AC lo T W cv bv fv tv ev nv kv d:=⟨h.1.keep (aj _) (aj _) hk,h.2.keep (aj _) (aj _) hk,h.3.keep (aj _) (aj _) hk,h.4.keep (aj _) (aj _) hk,h.5.keep (aj _) (aj _) hk,h.6.keep (aj _) (aj _) hk,h.7.keep (aj _) (aj _) hk⟩
theorem wS.w{w:ze}(h:wS lo w cv bv fv tv ev nv kv d):AC lo w.heap.size w cv bv fv tv ev nv kv d:=⟨h.1.2,h.2.2,h.3.2,h.4.2,h.5.2,h.6.2,h.7.2⟩
theorem ziN(cv bv fv tv ev nv kv:zc)(d:bj)(k:Int)(w:ze)(h:AC lo T w cv bv fv tv ev nv kv d)(hT:T<=w.heap.size)(hsm:zP d)(gZ:0<=k)(db:k<=10000000):
  zj prog 43 #[zk #[cv,za .i64 d.width,bv,fv,tv,ev,nv,kv],za .i64 k] w λe W=>∃r:Int,e=.returned (za .i64 r)/\(0<=r/\r<=32000000)/\ap (λj=>lo<=j/\j<T) w W:=by
 have l0:d.cG.length<=1048576:=hsm _ (by simp[bj.lists]);have l1:d.base.length<=1048576:=hsm _ (by simp[bj.lists]);have l2:d.cA.length<=1048576:=hsm _ (by simp[bj.lists]);have l3:d.tag.length<=1048576:=hsm _ (by simp[bj.lists]);have l4:d.fin.length<=1048576:=hsm _ (by simp[bj.lists]);have l5:d.next.length<=1048576:=hsm _ (by simp[bj.lists]);have l6:d.bH.length<=1048576:=hsm _ (by simp[bj.lists]);obtain⟨W0,ai⟩:∃W0,w.alloc (zi #[cv,za .i64 d.width,bv,fv,tv,ev,nv,kv] 39)=W0:=⟨_,rfl⟩;have af:zg w.heap.size w W0:=by rw[<-ai];exact aw
 have r0:W0.heap[w.heap.size]?=zd (zi #[cv,za .i64 d.width,bv,fv,tv,ev,nv,kv] 39 (0,0)):=by rw[<-ai];exact aI _ _
 have H0:=h.keep (W:=W0) (λb o _ hl e=>(af.block b (by omega)).trans e);have xE:=FO cv d.cG.length k W0 H0.cG (by omega);have bI:=(ah.1 r0).1;obtain⟨x0,x1,x2,x3,x4,x5,x6,x7⟩:=FT r0;clear h
 go_enter func43,ntmps43
 go_wp2_with fail
 refine xE.mono ?_;rintro e W1 ⟨rfl,M1⟩;clear x0 x1 x2 x3 x4 x5 x6 x7 ai xE;obtain⟨k1,zwW⟩:∃k1:Int,k+(d.cG.length:Int)=k1:=⟨_,rfl⟩;have kb1:0<=k1/\k1<=20000000:=by omega
 rw[zwW];clear zwW;have r1:=(M1.out _ bI (.inr hT)).trans r0;have H1:=H0.mk' M1;have uJ:=FO bv d.base.length k1 W1 H1.base (by omega);have aO:=(ah.1 r1).1;obtain⟨x0,x1,x2,x3,x4,x5,x6,x7⟩:=FT r1
 go_wp2_with fail
 refine uJ.mono ?_;rintro e W2 ⟨rfl,M2⟩;clear x0 x1 x2 x3 x4 x5 x6 x7 uJ;obtain⟨k2,zwX⟩:∃k2:Int,k1+(d.base.length:Int)=k2:=⟨_,rfl⟩;have P3:0<=k2/\k2<=22000000:=by omega
 rw[zwX];clear zwX;have r2:=(M2.out _ aO (.inr hT)).trans r1;have H2:=H1.mk' M2;have eW:=FO fv d.cA.length k2 W2 H2.cA (by omega);have aQ:=(ah.1 r2).1;obtain⟨x0,x1,x2,x3,x4,x5,x6,x7⟩:=FT r2
 go_wp2_with fail
 refine eW.mono ?_;rintro e W3 ⟨rfl,M3⟩;clear x0 x1 x2 x3 x4 x5 x6 x7 eW;obtain⟨k3,zwY⟩:∃k3:Int,k2+(d.cA.length:Int)=k3:=⟨_,rfl⟩;have kb3:0<=k3/\k3<=24000000:=by omega
 rw[zwY];clear zwY;have r3:=(M3.out _ aQ (.inr hT)).trans r2;have H3:=H2.mk' M3;have nU:=FO tv d.tag.length k3 W3 H3.tag (by omega);have VH:=(ah.1 r3).1;obtain⟨x0,x1,x2,x3,x4,x5,x6,x7⟩:=FT r3
 go_wp2_with fail
 refine nU.mono ?_;rintro e W4 ⟨rfl,M4⟩;clear x0 x1 x2 x3 x4 x5 x6 x7 nU;obtain⟨k4,zwZ⟩:∃k4:Int,k3+(d.tag.length:Int)=k4:=⟨_,rfl⟩;have kb4:0<=k4/\k4<=26000000:=by omega
 rw[zwZ];clear zwZ;have r4:=(M4.out _ VH (.inr hT)).trans r3;have H4:=H3.mk' M4;have Lp:=FO ev d.fin.length k4 W4 H4.fin (by omega);have hz4:=(ah.1 r4).1;obtain⟨x0,x1,x2,x3,x4,x5,x6,x7⟩:=FT r4
 go_wp2_with fail
 refine Lp.mono ?_;rintro e W5 ⟨rfl,M5⟩;clear x0 x1 x2 x3 x4 x5 x6 x7 Lp;obtain⟨k5,zw0⟩:∃k5:Int,k4+(d.fin.length:Int)=k5:=⟨_,rfl⟩;have kb5:0<=k5/\k5<=28000000:=by omega
 rw[zw0];clear zw0;have r5:=(M5.out _ hz4 (.inr hT)).trans r4;have H5:=H4.mk' M5;have hc5:=FO nv d.next.length k5 W5 H5.next (by omega);have Mt:=(ah.1 r5).1;obtain⟨x0,x1,x2,x3,x4,x5,x6,x7⟩:=FT r5
 go_wp2_with fail
 refine hc5.mono ?_;rintro e W6 ⟨rfl,M6⟩;clear x0 x1 x2 x3 x4 x5 x6 x7 hc5;obtain⟨k6,zw1⟩:∃k6:Int,k5+(d.next.length:Int)=k6:=⟨_,rfl⟩;have kb6:0<=k6/\k6<=30000000:=by omega
 rw[zw1];clear zw1;have r6:=(M6.out _ Mt (.inr hT)).trans r5;have H6:=H5.mk' M6;have Px:=FO kv d.bH.length k6 W6 H6.bH (by omega);have hz6:=(ah.1 r6).1;obtain⟨x0,x1,x2,x3,x4,x5,x6,x7⟩:=FT r6
 go_wp2_with fail
 refine Px.mono ?_;rintro e W7 ⟨rfl,M7⟩;clear x0 x1 x2 x3 x4 x5 x6 x7 Px;obtain⟨k7,zw2⟩:∃k7:Int,k6+(d.bH.length:Int)=k7:=⟨_,rfl⟩;have kb7:0<=k7/\k7<=32000000:=by omega
 rw[zw2];clear zw2;have r7:=(M7.out _ hz6 (.inr hT)).trans r6;have HT:=ay (((((((ap.bR af).trans M1.kJ).trans M2.kJ).trans M3.kJ).trans M4.kJ).trans M5.kJ).trans M6.kJ |>.trans M7.kJ);clear M1 M2 M3 M4 M5 M6 M7 H0 H1 H2 H3 H4 H5 H6 r0 r1 r2 r3 r4 r5 r6 r7;go_wp2;go_ret;exact⟨k7,rfl,kb7,HT.out⟩
theorem zhv(ao:Option Addr)(rc:Nat)(cv bv fv tv ev nv kv:zc)(rs:List bi)(d:bj)(T:Nat)(w:ze)(hr:Cx lo T w (.slice ao rs.length rc) rs)(ht:AC lo T w cv bv fv tv ev nv kv d)(hT:T<=w.heap.size)(hsm:zP d)(hc:tp rs<=4194304):
  zj prog 14 #[zk #[.slice ao rs.length rc,cv,za .i64 d.width,bv,fv,tv,ev,nv,kv],za .i64 1] w λe W=>∃r:Int,e=.returned (za .i64 r)/\(0<=r/\r<=32000000)/\ap (λj=>lo<=j/\j<T) w W:=by
 obtain⟨W0,ai⟩:∃W0,w.alloc (zi #[.slice ao rs.length rc,cv,za .i64 d.width,bv,fv,tv,ev,nv,kv] 41)=W0:=⟨_,rfl⟩;have af:zg w.heap.size w W0:=by rw[<-ai];exact aw
 have r0:W0.heap[w.heap.size]?=zd (zi #[.slice ao rs.length rc,cv,za .i64 d.width,bv,fv,tv,ev,nv,kv] 41 (0,0)):=by rw[<-ai];exact aI _ _
 have dD:=af.size;have c1:=zjZ (.slice ao rs.length rc) rs 1 W0 (hr.keep (aj _) (aj _) (λb o _ hl e=>(af.block b (by omega)).trans e)) (by omega);rw[show ((1:Nat):Int)=1 from rfl]at c1;have T0:=ht.keep (W:=W0) (λb o _ hl e=>(af.block b (by omega)).trans e);have bI:=(ah.1 r0).1;obtain⟨q0,q1,q2,q3,q4,q5,q6,q7,q8⟩:=jL r0;obtain⟨kk,Ck⟩:∃kk:Nat,zh (1+tp rs=kk):=⟨_,rfl⟩;have gH:(kk:Int)<=10000000:=by have:=Ck.out;omega
 rw[Ck.out]at c1;clear hr ht
 go_enter func14,ntmps14
 go_wp2_with fail
 refine c1.mono ?_;rintro e W1 ⟨rfl,M1⟩;have r1:=(M1.out _ bI (.inr hT)).trans r0;have c2:=ziN cv bv fv tv ev nv kv d (kk:Int) W1 (T0.mk' M1) (aW hT (aW dD M1.size)) hsm (by omega) gH;clear q0 q1 q2 q3 q4 q5 q6 q7 q8 ai c1;obtain⟨q0,q1,q2,q3,q4,q5,q6,q7,q8⟩:=jL r1
 go_wp2_with fail
 refine c2.mono ?_;rintro e W2 ⟨r,rfl,dx,t2⟩;have HT:=ay (((ap.bR af).trans M1.kJ).trans t2);clear c2 q0 q1 q2 q3 q4 q5 q6 q7 q8 M1 t2 T0 r0 r1;go_wp2;go_ret;exact⟨r,rfl,dx,HT.out⟩
theorem zjC(ao iD:Option Addr)(rc Qe:Nat)(cv bv fv tv ev nv kv vR vQ oY wJ vS py wA:zc)(rs:List bi)(d:bj)(w:ze)(hr:fU l1 w (.slice ao rs.length rc) rs)(hs:fV l1 w cv bv fv tv ev nv kv d)(gI:fU l2 w (.slice iD rs.length Qe) rs)(cV:fV l2 w vR vQ oY wJ vS py wA d):
  zj prog 13 #[zk #[.slice ao rs.length rc,cv,za .i64 d.width,bv,fv,tv,ev,nv,kv],zk #[.slice iD rs.length Qe,vR,za .i64 d.width,vQ,oY,wJ,vS,py,wA]] w λe w'=>e=.returned (.bool true)/\zg w.heap.size w w':=by
 obtain⟨W0,ai⟩:∃W0,(w.alloc (zi #[.slice ao rs.length rc,cv,za .i64 d.width,bv,fv,tv,ev,nv,kv] 41)).alloc (zi #[.slice iD rs.length Qe,vR,za .i64 d.width,vQ,oY,wJ,vS,py,wA] 41)=W0:=⟨_,rfl⟩;have af:zg w.heap.size w W0:=by rw[<-ai];exact(aw).alloc (by simp) _
 have r0:W0.heap[w.heap.size]?=zd (zi #[.slice ao rs.length rc,cv,za .i64 d.width,bv,fv,tv,ev,nv,kv] 41 (0,0)):=by rw[<-ai];exact heap_alloc2_old _ _ _
 have p0:W0.heap[w.heap.size+1]?=zd (zi #[.slice iD rs.length Qe,vR,za .i64 d.width,vQ,oY,wJ,vS,py,wA] 41 (0,0)):=by rw[<-ai];exact heap_alloc2_new _ _ _
 have c1:=zni _ _ rs W0 (hr.below af) (gI.below af);have c2:=λW (hb:zg w.heap.size w W)=>znj cv bv fv tv ev nv kv vR vQ oY wJ vS py wA d W (hs.below hb) (cV.below hb)
 obtain⟨q0,q1,q2,q3,q4,q5,q6,q7,q8⟩:=jL r0;obtain⟨x0,x1,x2,x3,x4,x5,x6,x7,x8⟩:=jL p0;clear hr hs gI cV
 go_enter func13,ntmps13
 go_wp2_with fail
 refine c1.mono ?_;rintro e W1 ⟨rfl,ag⟩;have fu:=aq af af.size ag;have c2:=c2 W1 fu;clear q0 q1 q2 q3 q4 q5 q6 q7 q8 x0 x1 x2 x3 x4 x5 x6 x7 x8 ai c1;obtain⟨q0,q1,q2,q3,q4,q5,q6,q7,q8⟩:=jL (ck r0 ag);obtain⟨x0,x1,x2,x3,x4,x5,x6,x7,x8⟩:=jL (ck p0 ag)
 go_wp2_with fail
 refine c2.mono ?_;rintro e W2 ⟨rfl,ae⟩;have dg:=aq fu fu.size ae;clear c2 q0 q1 q2 q3 q4 q5 q6 q7 q8 x0 x1 x2 x3 x4 x5 x6 x7 x8;go_wp2;go_ret;exact⟨rfl,dg⟩
theorem zk3(a b c d:Int)(v v2:zc)(sp:List (Int×Int))(w:ze)(h1:dR l1 w v sp)(h2:dR l2 w v2 sp):
  zj prog 12 #[zk #[za .i64 a,za .i64 b,za .i64 c,za .i64 d,v],zk #[za .i64 a,za .i64 b,za .i64 c,za .i64 d,v2]] w λe w'=>e=.returned (.bool true)/\zg w.heap.size w w':=by
 obtain⟨W0,ai⟩:∃W0,(w.alloc (zi #[za .i64 a,za .i64 b,za .i64 c,za .i64 d,v] 35)).alloc (zi #[za .i64 a,za .i64 b,za .i64 c,za .i64 d,v2] 35)=W0:=⟨_,rfl⟩;have af:zg w.heap.size w W0:=by rw[<-ai];exact(aw).alloc (by simp) _
 have r0:W0.heap[w.heap.size]?=zd (zi #[za .i64 a,za .i64 b,za .i64 c,za .i64 d,v] 35 (0,0)):=by rw[<-ai];exact heap_alloc2_old _ _ _
 have p0:W0.heap[w.heap.size+1]?=zd (zi #[za .i64 a,za .i64 b,za .i64 c,za .i64 d,v2] 35 (0,0)):=by rw[<-ai];exact heap_alloc2_new _ _ _
 have e1:(a != a)=false:=by simp
 have e2:(b != b)=false:=by simp
 have e3:(c != c)=false:=by simp
 have e4:(d != d)=false:=by simp
 have c1:=zng v v2 sp W0 (h1.below af) (h2.below af);obtain⟨q0,q1,q2,q3,q4⟩:=ja r0;obtain⟨x0,x1,x2,x3,x4⟩:=ja p0
 go_enter func12,ntmps12
 go_wp2_with fail
 refine c1.mono ?_;rintro e W1 ⟨rfl,ag⟩;have fu:=aq af af.size ag;clear c1 q0 q1 q2 q3 q4 x0 x1 x2 x3 x4 ai;go_wp2;go_ret;exact⟨rfl,fu⟩
end
def ep:cD×zc:=(.zero,undef)
theorem zoo:∀(zs:List (cD×zc)) (i c:Nat),i<zs.length->c<5->(gE zs)[i*5+c]?=(uo (zs.getD i ep))[c]?
 |[],i,c,h,_=>absurd h (cR _)
 |y::ys,0,c,_,hc=>by
  have e:gE (y::ys)=uo y++gE ys:=by simp[gE]
  rw[e,Nat.zero_mul,jw,pH (by simp[uo];omega)]
  rfl
 |y::ys,i+1,c,h,hc=>by
  have e:gE (y::ys)=uo y++gE ys:=by simp[gE]
  have h5:(uo y).length=5:=rfl;rw[e,sJ (by omega),h5,show (i+1)*5+c-5=i*5+c from by omega,zoo ys i c (by simpa using h) hc]
  rfl
theorem zl7:∀(zs:List (cD×zc)) (i:Nat) (a b c d:Int) (sp:List (Int×Int)),i<zs.length->((((gE zs).set (i*5) (za .i64 a)).set (i*5+1) (za .i64 b)).set (i*5+2) (za .i64 c)).set (i*5+3) (za .i64 d)=gE (zs.set i (⟨a,b,c,d,sp⟩,(zs.getD i ep).2))
 |[],i,_,_,_,_,_,h=>absurd h (cR _)
 |y::ys,0,a,b,c,d,sp,_=>by simp[gE,uo]
 |y::ys,i+1,a,b,c,d,sp,h=>by
  have ih:=zl7 ys i a b c d sp (by simpa using h);have e:∀(y:cD×zc) (l:List (cD×zc)),gE (y::l)=za .i64 y.1.kind :: za .i64 y.1.rule :: za .i64 y.1.start :: za .i64 y.1.fin::y.2::gE l:=λy l=>by simp[gE,uo]
  rw[e,show (i+1)*5=i*5+1+1+1+1+1 from by omega,show i*5+1+1+1+1+1+1=(i*5+1)+1+1+1+1+1 from by omega,show i*5+1+1+1+1+1+2=(i*5+2)+1+1+1+1+1 from by omega,show i*5+1+1+1+1+1+3=(i*5+3)+1+1+1+1+1 from by omega];simp only[List.set_cons_succ];rw[ih,List.getD_cons_succ,e]
structure eM(B:Nat)(g cap:Nat)(zs:List (cD×zc))(w:ze):Prop where
 row:w.ownsRow B 35 5 (zf (zd ⟨g,0,zb⟩) zs.length cap) zs.length (gE zs)
 lD:lR B w zs
section
variable {B g cap:Nat} {zs:List (cD×zc)} {w w':ze}
theorem eM.mem{i:Nat}(hi:i<zs.length):zs.getD i ep∈zs:=by rw[bP,dh hi];exact kg hi
theorem eM.gl(h:eM B g cap zs w):B<=g/\∃ax,w.heap[g]?=zd (zi ax 35 (0,0)):=dy h.row (by simp[Value.ownBlock])
theorem eM.sp(h:eM B g cap zs w){i:Nat}(hi:i<zs.length):Az B w (zs.getD i ep).2 (zs.getD i ep).1.dN:=h.lD.sp _ (eM.mem hi)
theorem eM.cell(h:eM B g cap zs w){i:Nat}(hi:i<zs.length)(c:Nat)(hc:c<5):w.cell? ⟨g,i*5+c,zb⟩=(uo (zs.getD i ep))[c]?/\w.frozen? ⟨g,i*5+c,zb⟩=false:=by
 obtain⟨-,ax,hh⟩:=h.gl;exact⟨(h.row.cellAt (i*5+c) (by omega)).trans (zoo zs i c hi hc),cT _ _ _ _ _ hh⟩
theorem eM.below(h:eM B g cap zs w)(hb:zg w.heap.size w w'):eM B g cap zs w':=
 ⟨dQ h.row hb,h.lD.keep λy hy k hk=>hb.block k (by obtain⟨_,ax,z⟩:=dy (h.lD.sp y hy) hk;exact(ah.1 z).1)⟩
theorem eM.keep(h:eM B g cap zs w)(hk:∀k,B<=k->k<w.heap.size->w'.heap[k]?=w.heap[k]?):eM B g cap zs w':=
 ⟨gR h.row λb e=>by
  obtain⟨z1,ax,z⟩:=dy h.row e;exact hk b z1 (ah.1 z).1,h.lD.keep λy hy k e=>by
  obtain⟨z1,ax,z⟩:=dy (h.lD.sp y hy) e;exact hk k z1 (ah.1 z).1⟩
def Eb(g:Nat)(zs:List (cD×zc))(k:Nat):Prop:=k=g\/∃y,y∈zs/\y.2.ownBlock=zd k
theorem eM.KH(h:eM B g cap zs w){k:Nat}(hk:Eb g zs k):B<=k:=by
 rcases hk with rfl|⟨y,hy,e⟩
 ·exact h.gl.1
 ·exact(dy (h.lD.sp y hy) e).1
theorem eM.dj(h:eM B g cap zs w){i j:Nat}(hi:i<zs.length)(hj:j<zs.length)(dL:i≠j){k:Nat}(e1:(zs.getD i ep).2.ownBlock=zd k):¬(zs.getD j ep).2.ownBlock=zd k:=by
 have hp:=List.pairwise_iff_getElem.1 h.lD.nd;rw[bP,dh hi]at e1;rw[bP,dh hj];intro e2;rcases Nat.lt_or_gt_of_ne dL with hl|hl
 ·exact hp i j hi hj hl k e1 e2
 ·exact hp j i hj hi hl k e2 e1
end
def xS(y:cD×zc)(K:Int):cD×zc:=(⟨K,K+1,K+2,K+3,r8 y.1.dN.length (K+4)⟩,y.2)
def G7(w:ze)(g i:Nat)(K:Int):ze:=(((w.setCell ⟨g,i*5,zb⟩ (za .i64 K)).setCell ⟨g,i*5+1,zb⟩ (za .i64 (K+1))).setCell ⟨g,i*5+2,zb⟩ (za .i64 (K+2))).setCell ⟨g,i*5+3,zb⟩ (za .i64 (K+3))
theorem eM.zx4{B g cap:Nat}{zs:List (cD×zc)}{w:ze}(h:eM B g cap zs w){i:Nat}(hi:i<zs.length)(K:Int):(G7 w g i K).ownsRow B 35 5 (zf (zd ⟨g,0,zb⟩) zs.length cap) zs.length (gE (zs.set i (xS (zs.getD i ep) K)))/\ap (· = g) w (G7 w g i K)/\Az B (G7 w g i K) (zs.getD i ep).2 (zs.getD i ep).1.dN:=by
 have h1:=Jh (Jh (Jh (Jh h.row (i*5) (za .i64 K)) (i*5+1) (za .i64 (K+1))) (i*5+2) (za .i64 (K+2))) (i*5+3) (za .i64 (K+3));rw[zl7 zs i _ _ _ _ (r8 (zs.getD i ep).1.dN.length (K+4)) hi]at h1;have tc:ap (· = g) w (G7 w g i K):=((((ap.refl (· = g) w).put (.inl rfl)).put (.inl rfl)).put (.inl rfl)).put (.inl rfl);refine⟨h1,tc,gR (h.sp hi) λb e=>?_⟩;obtain⟨_,ax,z⟩:=dy (h.sp hi) e;refine tc.same b (ah.1 z).1 λe2=>?_
 obtain⟨-,cu,zz⟩:=h.gl;have e2:b=g:=e2;rw[e2,zz]at z;exact absurd (bL z) (by decide)
theorem eM.mark{B g cap:Nat}{zs:List (cD×zc)}{w w2:ze}(h:eM B g cap zs w){i:Nat}(hi:i<zs.length)(K:Int)(hP:Az B w2 (zs.getD i ep).2 (r8 (zs.getD i ep).1.dN.length (K+4)))(hg:(G7 w g i K).grownBy w2 (zs.getD i ep).2.ownBlock):eM B g cap (zs.set i (xS (zs.getD i ep) K)) w2/\ap (Eb g zs) w w2:=by
 obtain⟨h1,tc,h2⟩:=h.zx4 hi K;obtain⟨-,cu,zz⟩:=h.gl;have lg:ap (Eb g zs) w w2:=(tc.mono λk _ e=>.inl e).grown hg λb e=>.inl (.inr ⟨_,eM.mem hi,e⟩)
 have Uu:(zs.getD i ep).2.ownBlock≠zd g:=λe=>by
  obtain⟨_,ax,z⟩:=dy (h.sp hi) e;rw[zz]at z;exact absurd (bL z) (by decide)
 have g4:=dy h1 (k:=g) (by simp[Value.ownBlock]);refine⟨⟨?_,λy hy=>?_,?_⟩,lg⟩
 ·rw[DX];refine gR h1 λb e=>?_
  obtain⟨_,ax,z⟩:=dy h1 e;exact hg.block b (ah.1 z).1 (λe2=>by
   have e:g=b:=by simpa [Value.ownBlock]using e
   subst e;exact Uu e2.symm)
 ·obtain⟨j,hj,rfl⟩:=DW hy;rw[DX]at hj
  by_cases e:j=i
  ·subst e;rw[List.getElem_set_self];show Az B w2 _ _;exact hP
  ·rw[List.getElem_set_ne (Ne.symm e)];have hyj:=h.lD.sp zs[j] (kg hj);refine gR hyj λb eb=>?_
   obtain⟨_,ax,z⟩:=dy hyj eb;have aZ:=(ah.1 z).1;have Lj:b≠g:=λe2=>by
    rw[e2,zz]at z;exact absurd (bL z) (by decide)
   have ej:zs.getD j ep=zs[j]:=by rw[bP,dh hj];rfl
   exact(hg.block b (by have:=tc.size;omega) (λe2=>h.dj hi hj (Ne.symm e) e2.symm (by rw[ej];exact eb))).trans (tc.same b aZ Lj)
 ·have e1:(zs.set i (xS (zs.getD i ep) K)).map Prod.snd=zs.map Prod.snd:=by
   rw[List.map_set];apply DY;intro n;rw[qx]
   by_cases e:i=n
   ·subst e;simp[xS,hi,List.getD_eq_getElem?_getD]
   ·rw[ak e]
  have hp:=h.lD.nd;rw[<-List.pairwise_map (f:=Prod.snd) (R:=λ(a b:zc)=>∀k,a.ownBlock=zd k->¬b.ownBlock=zd k)]at hp ⊢;rw[e1];exact hp
def kA(zs:List (cD×zc))(k:Int):Nat->Int
 |0=>k
 |i+1=>kA zs k i+(4+2*((zs.getD i ep).1.dN.length:Int))
def mm(zs:List (cD×zc))(k:Int)(i:Nat):List (cD×zc):=(List.range zs.length).map λj=>if j<i then xS (zs.getD j ep) (kA zs k j) else zs.getD j ep
theorem XZ(zs:List (cD×zc))(k:Int)(i:Nat):(mm zs k i).length=zs.length:=by simp[mm]
theorem zpv(zs:List (cD×zc))(k:Int):mm zs k 0=zs:=by
 apply List.ext_getElem
 ·rw[XZ]
 ·intro n h1 h2;simp[mm,h2]
theorem zry(zs:List (cD×zc))(k:Int){i:Nat}(hi:i<zs.length):(mm zs k i).getD i ep=zs.getD i ep:=by
 unfold mm;rw[bP,yA,List.getElem?_range hi];simp
theorem zpu(zs:List (cD×zc))(k:Int){i:Nat}(hi:i<zs.length):(mm zs k zs.length).getD i ep=xS (zs.getD i ep) (kA zs k i):=by
 unfold mm;rw[bP,yA,List.getElem?_range hi];simp[hi]
theorem zrz(zs:List (cD×zc))(k:Int)(i:Nat):(mm zs k i).set i (xS (zs.getD i ep) (kA zs k i))=mm zs k (i+1):=by
 apply List.ext_getElem
 ·simp[mm]
 ·intro n h1 h2;rw[List.getElem_set]
  by_cases e:i=n
  ·subst e;simp[mm]
  ·rw[ak e];simp only[mm,List.getElem_map,List.getElem_range]
   by_cases e2:n<i
   ·rw[aC e2,aC (by omega)]
   ·rw[ak e2,ak (by omega)]
theorem zrx{zs:List (cD×zc)}{k:Int}{i g b:Nat}(h:Eb g (mm zs k i) b):Eb g zs b:=by
 rcases h with h|⟨y,hy,e⟩
 ·exact .inl h
 ·simp only[mm,rh,Ab]at hy;obtain⟨j,hj,rfl⟩:=hy;refine .inr ⟨zs.getD j ep,eM.mem hj,?_⟩;split at e
  ·exact e
  ·exact e
theorem Rv{zs:List (cD×zc)}(hs:∀y,y∈zs->y.1.dN.length<=501)(k:Int):∀i,i<=zs.length->k+4*(i:Int)<=kA zs k i/\kA zs k i<=k+1006*(i:Int)
 |0,_=>by simp[kA]
 |i+1,h=>by
  have ih:=Rv hs k i (by omega);have:=hs _ (eM.mem (zs:=zs) (i:=i) (by omega));simp only[kA];omega
section
variable {zs:List (cD×zc)}
theorem ziw(xs:Array zc)(w:ze):(callFunc 12 xs).run prog w=.ok (.enter 12 xs) w:=by kernel_rfl
theorem eM.OQ{B g cap:Nat}{w:ze}(h:eM B g cap zs w){i:Nat}(hi:i<zs.length):w.cell? ⟨g,i*5,zb⟩=zd (za .i64 (zs.getD i ep).1.kind)/\w.cell? ⟨g,i*5+1,zb⟩=zd (za .i64 (zs.getD i ep).1.rule)/\w.cell? ⟨g,i*5+2,zb⟩=zd (za .i64 (zs.getD i ep).1.start)/\w.cell? ⟨g,i*5+3,zb⟩=zd (za .i64 (zs.getD i ep).1.fin)/\w.cell? ⟨g,i*5+4,zb⟩=zd (zs.getD i ep).2:=
 ⟨(h.cell hi 0 (by omega)).1,(h.cell hi 1 (by omega)).1,(h.cell hi 2 (by omega)).1,(h.cell hi 3 (by omega)).1,(h.cell hi 4 (by omega)).1⟩
theorem WQ{B1 B2 g1 c1 g2 c2:Nat}{ys:List (cD×zc)}(w:ze)(h1:eM B1 g1 c1 ys w)(h2:eM B2 g2 c2 zs w)(he:ys.map Prod.fst=zs.map Prod.fst)(hl:ys.length<=20000)(hs:∀y,y∈ys->y.1.dN.length<=501):
  zj prog 21 #[zf (zd ⟨g1,0,zb⟩) ys.length c1,zf (zd ⟨g2,0,zb⟩) zs.length c2] w λe w'=>e=.returned (.bool true)/\zg w.heap.size w w':=by
 have hlen:zs.length=ys.length:=by have:=congrArg List.length he;simpa using this.symm
 have Lx:∀i,i<ys.length->(zs.getD i ep).1=(ys.getD i ep).1:=λi hi=>by
  have h3:(ys.map Prod.fst)[i]?=(zs.map Prod.fst)[i]?:=by rw[he]
  rw[yA,yA,dh hi,dh (by omega)]at h3;simp only[D7,Option.some.injEq]at h3;rw[bP,bP,dh hi,dh (by omega)];exact h3.symm
 have Sh:=ay Lx;have H1:=ay h1;have H2:=ay h2;have Hs:=ay hs;have El:=ay hlen;have fP:prog.follows .mixedOrders=true:=by kernel_rfl
 rw[hlen];clear h1 h2 he Lx hs hlen
 go_enter func21,ntmps21
 go_wp2
 go_loopw [5] (λiv wr=>∃k:Nat,k<=ys.length/\iv=za .i64 k/\zg w.heap.size w wr)
  (λiv _=>ys.length-(intOf iv).toNat)
 case atStart=>exact⟨0,aR _,rfl,Below.refl _ _⟩
 case round=>
  obtain⟨k,hk,rfl,hb⟩:=hrel
  by_cases hlt:k<ys.length
  ·have da:(0:Int)<=(k:Int):=by omega
   have cO:(k:Int)<(ys.length:Int):=by omega
   have PK:k<zs.length:=by rw[El.out];exact hlt
   have f1:=λs:dB wr=>((H1.out.below hb).below s.h).OQ hlt
   have f2:=λs:dB wr=>((H2.out.below hb).below s.h).OQ PK
   have hx:=Sh.out k hlt;have p1:=λW (hW:zg wr.heap.size wr W)=>(((H1.out.below hb).below hW).sp hlt).read (by have:=Hs.out _ (eM.mem hlt);omega)
   have p2:=λW (hW:zg wr.heap.size wr W)=>(((H2.out.below hb).below hW).sp PK).read (by rw[hx];have:=Hs.out _ (eM.mem hlt);omega)
   generalize ys.getD k ep=y at *;generalize zs.getD k ep=z at *;obtain⟨⟨k',r',a',e',sp⟩,v⟩:=y;obtain⟨x2,v2⟩:=z;dsimp only at hx;subst hx;dsimp only at f1 f2 p1 p2;obtain⟨so,sm,sc,hv⟩:∃so sm sc,v=.slice so sm sc:=by obtain⟨so,sc,h,_⟩:=p1 wr (Below.refl _ _);exact⟨_,_,_,h⟩
   obtain⟨Qj,sm2,Jc,uU⟩:∃so sm sc,v2=.slice so sm sc:=by obtain⟨so,sc,h,_⟩:=p2 wr (Below.refl _ _);exact⟨_,_,_,h⟩
   subst hv uU;have y0:=λs=>(f1 s).1
   have y1:=λs=>(f1 s).2.1
   have y2:=λs=>(f1 s).2.2.1
   have y3:=λs=>(f1 s).2.2.2.1
   have y4:=λs=>(f1 s).2.2.2.2
   have z0:=λs=>(f2 s).1
   have z1:=λs=>(f2 s).2.1
   have z2:=λs=>(f2 s).2.2.1
   have z3:=λs=>(f2 s).2.2.2.1
   have z4:=λs=>(f2 s).2.2.2.2
   have P1:=ay p1;have P2:=ay p2;clear f1 f2 p1 p2
   go_upto_region 6 with fail
   refine MZ [0,1,2,3,4,5,6,7] [8,9] 8 (λw'=>∃s:dB wr,w'=s.W) fP ⟨⟨wr.drew,(Below.refl _ _).drew⟩,rfl⟩ (by kernel_rfl) ?_;intro os bW;simp only[jQ,jR,jT,jS]at bW;subst bW
   change wpQuiet _ _ _ _ [_,_,_,_,_,_,_,_] _
   repeat (go_big_quiet_step (fail))
   refine wpQuiet_nil ?_;rintro w' ⟨⟨Wb,eX⟩,hw'⟩ r' bV;replace hw':w'=Wb:=hw';subst w';simp only[jQ,jR,jT,jS,D7]at bV;subst bV;clear y0 y1 y2 y3 y4 z0 z1 z2 z3 z4;refine qj rfl (λK5 fX=>?_);refine DL 12 #[.tmp 20,.tmp 24] #[35,35] (by rfl) #[zk #[za .i64 k',za .i64 r',za .i64 a',za .i64 e',.slice so sm sc],zk #[za .i64 k',za .i64 r',za .i64 a',za .i64 e',.slice Qj sm2 Jc]] (by simp[Act.eval]) (λv w'=>v=.bool true/\zg Wb.heap.size Wb w') (ziw _ _) ((zk3 k' r' a' e' _ _ sp Wb (P1.out Wb eX) (P2.out Wb eX)).mono (by
    rintro e w1 ⟨rfl,h1⟩;exact⟨_,rfl,rfl,h1⟩)) ?_
   rintro v8 W8 ⟨rfl,eY⟩;refine fX _ _ (λh=>by simp at h) ?_;clear fX K5;have Hb8:=ay (aq hb hb.size (aq eX eX.size eY));refine Qx (by simp) (λ_ _ h=>h) ?_
   change wpList _ _ _ [_] _ _
   go_wp2;rw[vl];go_wp2
   go_roundw
   case rel=>exact⟨k+1,by omega,by go_num,Hb8.out⟩
   case measure=>simp[intOf];omega
  ·go_wp2;go_ret;exact⟨rfl,hb⟩
end
section
variable {B g cap:Nat}{zs:List (cD×zc)}
theorem zht(k:Int)(w:ze)(h:eM B g cap zs w)(hk:0<=k/\k<=1000)(hl:zs.length<=20000)(hs:∀y,y∈zs->y.1.dN.length<=501):
  zj prog 24 #[zf (zd ⟨g,0,zb⟩) zs.length cap,za .i64 k] w λe w'=>e=.returned (za .i64 (kA zs k zs.length))/\eM B g cap (mm zs k zs.length) w'/\ap (Eb g zs) w w':=by
 have H0:zh (eM B g cap (mm zs k 0) w):=by rw[zpv];exact h
 have Sc:=ay (Rv hs k);have Hs:=ay hs;clear h hs
 go_enter func24,ntmps24
 go_wp2
 go_loopw [1,5] (λkv iv wr=>∃i:Nat,i<=zs.length/\kv=za .i64 (kA zs k i)/\iv=za .i64 (i:Int)/\zh (eM B g cap (mm zs k i) wr)/\zh (ap (Eb g zs) w wr)) (λ_ iv _=>zs.length-(intOf iv).toNat)
 case atStart=>exact⟨0,aR _,rfl,rfl,H0,ap.refl _ _⟩
 case round=>
  clear H0;obtain⟨i,hi,rfl,rfl,HS,HT⟩:=hrel
  by_cases hlt:i<zs.length
  ·have zx:i<(mm zs k i).length:=by rw[XZ];exact hlt
   have hg:=zry zs k hlt;have lH:=zrz zs k i;have dV:=Sc.out i (by omega);have LX:kA zs k (i+1)=kA zs k i+(4+2*((zs.getD i ep).1.dN.length:Int)):=rfl;have hsp:=Hs.out _ (eM.mem hlt);obtain⟨c0,c1,c2,c3,c4⟩:=HS.out.OQ zx;have f0:=(HS.out.cell zx 0 (by omega)).2;have f1:=(HS.out.cell zx 1 (by omega)).2;have f2:=(HS.out.cell zx 2 (by omega)).2;have f3:=(HS.out.cell zx 3 (by omega)).2;rw[uf]at f0;obtain⟨h1,tc,h2⟩:=HS.out.zx4 zx (kA zs k i);have PL:=λw2=>HS.out.mark (w2:=w2) zx (kA zs k i)
   rw[hg]at c0 c1 c2 c3 c4 h2;simp only[hg]at PL;rw[lH]at PL;have HM:=ay PL;have Hn:=ay LX;have hC:=λW (hW:Az B W (zs.getD i ep).2 (zs.getD i ep).1.dN)=>zjY (kA zs k i+4) W hW (by omega) (by omega)
   have CR:=hC _ h2;obtain⟨so,sm,sc,hv⟩:∃so sm sc,(zs.getD i ep).2=.slice so sm sc:=by
    rcases h2.2 with ⟨e,_⟩|⟨g,c,_,e,_⟩
    ·exact⟨_,_,_,e⟩
    ·exact⟨_,_,_,e⟩
   rw[hv]at c4 CR;have Hv:=ay hv;have hK0:0<=kA zs k i:=by omega
   have pP:kA zs k i<=100000000:=by omega
   unfold G7 at CR;clear h1 tc h2 PL LX hC lH hg hv dV;generalize kA zs k i=K at *;have da:(0:Int)<=(i:Int):=by omega
   have cO:(i:Int)<(zs.length:Int):=by omega
   go_wp2_with fail
   have e2:K+1+1=K+2:=by omega
   have e3:K+2+1=K+3:=by omega
   have e4:K+3+1=K+4:=by omega
   simp only[e2,e3,e4];refine CR.mono ?_;rintro e W2 ⟨rfl,La,bU⟩;obtain⟨nR,lV⟩:=HM.out W2 (by rw[Hv.out];exact La) (by rw[Hv.out];exact bU);have eC:=ay nR;have mI:=ay (HT.out.trans (lV.mono λb _ hb=>zrx hb));obtain⟨K2,pQ⟩:∃K2:Int,K+4+2*((zs.getD i ep).1.dN.length:Int)=K2:=⟨_,rfl⟩;have xh:zh (kA zs k (i+1)=K2):=by show _=_;rw[Hn.out,<-pQ];omega
   rw[pQ];clear e2 e3 e4 CR La bU nR lV HM Hn c0 c1 c2 c3 c4 f0 f1 f2 f3 HS HT pQ;go_wp2
   go_roundw
   case rel=>exact⟨i+1,by omega,by rw[xh.out],by go_num,eC,mI⟩
   case measure=>simp[intOf];omega
  ·obtain rfl:i=zs.length:=by omega
   go_wp2;go_ret;exact⟨rfl,HS.out,HT.out⟩
theorem zhr(k:Int)(w:ze)(h:eM B g cap (mm zs k zs.length) w)(hk:0<=k/\k<=1000)(hl:zs.length<=20000)(hs:∀y,y∈zs->y.1.dN.length<=501):
  zj prog 25 #[zf (zd ⟨g,0,zb⟩) zs.length cap,za .i64 k] w λe w'=>e=.returned (za .i64 (kA zs k zs.length))/\w'=w:=by
 have HS:=ay h;have Sc:=ay (Rv hs k);have Hs:=ay hs;clear h hs
 go_enter func25,ntmps25
 go_wp2
 go_loop [1,5] (λkv iv=>∃i:Nat,i<=zs.length/\kv=za .i64 (kA zs k i)/\iv=za .i64 (i:Int)) (λ_ iv=>zs.length-(intOf iv).toNat)
 case atStart=>exact⟨0,aR _,rfl,rfl⟩
 case round=>
  obtain⟨i,hi,rfl,rfl⟩:=hrel
  by_cases hlt:i<zs.length
  ·have zx:i<(mm zs k zs.length).length:=by rw[XZ];exact hlt
   have hd:=zpu zs k hlt;have dV:=Sc.out i (by omega);have LX:kA zs k (i+1)=kA zs k i+(4+2*((zs.getD i ep).1.dN.length:Int)):=rfl;have hsp:=Hs.out _ (eM.mem hlt);obtain⟨c0,c1,c2,c3,c4⟩:=HS.out.OQ zx;have h2:=HS.out.sp zx;rw[hd]at c0 c1 c2 c3 c4 h2;simp only[xS]at c0 c1 c2 c3 c4 h2;have hC:=zjK (kA zs k i+4) w (h2.read (by rw[Gc];omega)) (by omega) (by omega);obtain⟨so,sm,sc,hv⟩:∃so sm sc,(zs.getD i ep).2=.slice so sm sc:=by
    rcases h2.2 with ⟨e,_⟩|⟨g,c,_,e,_⟩
    ·exact⟨_,_,_,e⟩
    ·exact⟨_,_,_,e⟩
   rw[hv]at c4 hC;have Hn:=ay LX;have hK0:0<=kA zs k i:=by omega
   have pP:kA zs k i<=100000000:=by omega
   clear h2 LX hd hv dV;generalize kA zs k i=K at *;have da:(0:Int)<=(i:Int):=by omega
   have cO:(i:Int)<(zs.length:Int):=by omega
   obtain⟨K2,pQ⟩:∃K2:Int,K+4+2*((zs.getD i ep).1.dN.length:Int)=K2:=⟨_,rfl⟩;have xh:zh (kA zs k (i+1)=K2):=by show _=_;rw[Hn.out,<-pQ];omega
   have ky:decide (K2<0)=false:=by simp;omega
   rw[pQ]at hC;have e2:K+1+1=K+2:=by omega
   have e3:K+2+1=K+3:=by omega
   have e4:K+3+1=K+4:=by omega
   rw[<-e4,<-e3,<-e2]at hC;rw[<-e3,<-e2]at c3;rw[<-e2]at c2;have n0:(K != K)=false:=by simp
   have n1:(K+1 != K+1)=false:=by simp
   have n2:(K+1+1 != K+1+1)=false:=by simp
   have n3:(K+1+1+1 != K+1+1+1)=false:=by simp
   clear pQ Hn e2 e3 e4
   go_wp2_with fail
   refine hC.mono ?_;rintro e W2 ⟨rfl,dk⟩;subst W2;clear hC c0 c1 c2 c3 c4 n0 n1 n2 n3;go_wp2
   go_roundw
   case rel=>exact⟨i+1,by omega,by rw[xh.out],by go_num⟩
   case measure=>simp[intOf];omega
  ·obtain rfl:i=zs.length:=by omega
   go_wp2;go_ret;exact⟨rfl,rfl⟩
end
theorem zj0(ki:Int)(w:ze)(gZ:0<ki)(hk:ki<=100000000):
  zj prog 58 #[za .i64 ki] w λe w'=>(∃s,e=.returned (.string s))/\zg w.heap.size w w':=by
 obtain⟨k,rfl⟩:∃k:Nat,ki=k:=⟨ki.toNat,by omega⟩;have hp:¬(k:Int)<=0:=by omega
 go_enter func58,ntmps58
 go_wp2
 go_loopw [0,3] (λkv ov wr=>∃(j:Nat) (out:ByteArray),kv=za .i64 j/\ov=.string out/\out.size+j<=100000000/\zg w.heap.size w wr)
  (λkv _ _=>(intOf kv).toNat)
 case atStart=>exact⟨k,⟨#[]⟩,rfl,rfl,by have:(⟨#[]⟩:ByteArray).size=0:=rfl;omega,Below.refl _ _⟩
 case round=>
  obtain⟨j,ob,rfl,rfl,hle,hb⟩:=hrel
  by_cases hj:0<j
  ·obtain⟨b,xA⟩:∃b:UInt8,b=UInt8.ofNat (48+j%10):=⟨_,rfl⟩;have Ue:(b.toNat:Int)=48+(j:Int)%10:=by rw[xA,UInt8.toNat_ofNat'];omega
   have dw:(0:Int)<=(j:Int)%10:=by omega
   have dG:(j:Int)%10<10:=by omega
   have hcv:=run_convert_bytes_back (P:=prog) (wr.alloc (zi #[.int .u8 (b.toNat:Int)] 5)) 140 9 5 ⟨wr.heap.size,0,zb⟩ 1 [b] underlying140 underlying5 underlying9 (by
    intro q hq;have:q=0:=by simpa using hq
    subst this;simp[Addr.add])
   rw[Ue]at hcv;simp only[List.length_singleton]at hcv;have hj':(j:Int) > 0:=by omega
   have hs:ob.size<=100000000:=by omega
   clear xA Ue;go_wp2
   go_roundw
   case rel=>exact⟨j/10,_,by go_num,rfl,by
    rw[ByteArray.size_append];have:(⟨[b].toArray⟩:ByteArray).size=1:=rfl;omega,hb.alloc hb.size _⟩
   case measure=>simp[intOf];omega
  ·have UC:j=0:=by omega
   subst UC;have hs:ob.size<=100000000:=by omega
   go_wp2;go_ret;exact⟨⟨_,rfl⟩,hb⟩
theorem znx{B g n cap:Nat}{xs:List zc}(k:Int)(w:ze)(h:w.ownsRow B 92 2 (zf (zd ⟨g,0,zb⟩) n cap) n xs)(hk:0<=k/\k<=90000000)(hn:n<=1048576):
  zj prog 23 #[zf (zd ⟨g,0,zb⟩) n cap,za .i64 k] w λe w'=>e=.returned (za .i64 (k+2*(n:Int)))/\ap (· = g) w w':=by
 go_enter func23,ntmps23
 go_wp2
 go_loopw [1,5] (λkv iv wr=>∃(i:Nat) (K:Int) (ys:List zc),i<=n/\kv=za .i64 K/\K=k+2*(i:Int)/\iv=za .i64 (i:Int)/\wr.ownsRow B 92 2 (zf (zd ⟨g,0,zb⟩) n cap) n ys/\zh (ap (· = g) w wr)) (λ_ iv _=>n-(intOf iv).toNat)
 case atStart=>exact⟨0,k,xs,aR _,rfl,by omega,rfl,h,ap.refl _ _⟩
 case round=>
  clear h;obtain⟨i,K,ys,hi,rfl,hK,rfl,ho,HT⟩:=hrel;have HK:=ay hK
  by_cases hlt:i<n
  ·obtain⟨u0,u1,d0,d1,f0,f1⟩:=DG ho hlt;have da:(0:Int)<=(i:Int):=by omega
   have cO:(i:Int)<(n:Int):=by omega
   have hK0:0<=K:=by omega
   have pP:K<=99000000:=by omega
   have o1:=ho.stored (i*2) (za .i64 K);have ly:=ay (HT.out.put (b:=g) (o:=i*2) (v:=za .i64 K) (.inl rfl));clear hK HT
   go_upto_region 6 with fail
   generalize wr.setCell ⟨g,i*2,zb⟩ (za .i64 K)=W1 at *;clear d0 d1 f0 f1 ho;have ho1:=o1.1;have LV:=zj0 (K+1) W1 (by omega) (by omega);clear o1
   go_wp2_with fail
   refine LV.mono ?_;rintro e W2 ⟨⟨s,rfl⟩,ae⟩;have wj:=dQ ho1 ae;obtain⟨v0,v1,d0,d1,f0,f1⟩:=DG wj hlt;have o3:=(wj.stored (i*2+1) (.string s)).1;have nK:=ay ((ly.out.trans (.bR ae)).put (b:=g) (o:=i*2+1) (v:=.string s) (.inl rfl));have e2:K+1+1=K+2:=by omega
   have hK3:K+2=k+2*((i+1:Nat):Int):=by have:=HK.out;omega
   have HK3:=ay hK3;clear LV hK3 e2 ly ae ho1;go_wp2
   go_roundw
   case rel=>exact⟨i+1,K+1+1,_,by omega,rfl,by have:=HK3.out;omega,by go_num,o3,nK⟩
   case measure=>simp[intOf];omega
  ·obtain rfl:i=n:=by omega
   have HE:zh (Value.int .i64 K=za .i64 (k+2*(i:Int))):=by show _=_;rw[hK]
   clear hK HK;go_wp2;go_ret;exact⟨by have:=HE.out;simpa using this,HT.out⟩
open Go
section
variable {P:Program} {md:Region.Mode} {ops:Array Oper} {Q:Exit->Act->ze->Prop}
end
end Go.Proofs.YtdimhpfiieepiaaGreatDoor
