import Derived.Test.YtfajjdgkiilhfaaC16
import Derived.Deep.QuietTactic
import Derived.Deep.RegionHeld3
import Derived.Deep.DrawnRows
import Derived.RangeFuncNested
import Derived.RangeFuncBound
import Derived.RangeFuncCalls
import Derived.RangeFuncLeaves
import Derived.Shelf.Abstract
import Derived.Shelf.RegionOpen
import Derived.WalkKit
import Derived.OwnWalkIn
import Derived.TacticsInMore
import Derived.LoopNIn
import Derived.LoopIn
namespace Go.Proofs.Ytfajjdgkiilhfaa
open Proofs.Try
open Option renaming none->za,some->zh
open Go renaming World->zi,Value->zx,TypeId->zy
open Value renaming slice->zn,int->zw
open Obj renaming cells->zp
set_option maxHeartbeats 4000000
set_option maxRecDepth 100000
open Go.RowKit
section
attribute [local go_sem ↓] wp_at_zero wp_at_succ
section
variable {W W' w:zi}{v a b c d nv bv k l r sv:zx}{g N:Nat}{m:Nat -> Bool}
theorem ag{p:Prop}(h:p):Hid p:=h
structure bO where
 k:Nat
 l:Nat
 r:Nat
 sv:zx
def bO.zero:bO:=⟨0,0,0,zn za 0 0⟩
def Pg(x:bO):List zx:=[.int .u8 x.k,zw .i64 x.l,zw .i64 x.r,x.sv]
structure uL(W:zi)(v:zx)(Ns:List bO):Prop where
 len:Ns.length<=8589934592
 at_:∃ao cap,v=.slice ao Ns.length cap/\(0<Ns.length->∃g,ao=zh ⟨g,0,za⟩/\g<W.heap.size/\∀i,i<Ns.length->∀j u,(Pg (Ns.getD i .zero))[j]?=zh u->W.cell? ⟨g,i*4+j,za⟩=zh u)
theorem uL.below{Ns:List bO}(h:uL W v Ns)(hb:Below W.heap.size W W'):uL W' v Ns:=by
 obtain⟨hl,ao,cap,rfl,h⟩:=h;refine⟨hl,ao,cap,rfl,λh0=>?_⟩;obtain⟨g,rfl,hg,hc⟩:=h h0;exact⟨g,rfl,fR hg hb.size,λi hi j u hu=>by rw[World.cell?_of_block (w:=W) (hb.block g hg)];exact hc i hi j u hu⟩
theorem uL.node{Ns:List bO}(h:uL W v Ns){n k l r:Nat}{sv:zx}(hx:Ns[n]?=zh ⟨k,l,r,sv⟩):∃g cap,v=zn (zh ⟨g,0,za⟩) Ns.length cap/\n<Ns.length/\g<W.heap.size/\
  W.cell? ⟨g,n*4,za⟩=zh (.int .u8 k)/\W.cell? ⟨g,n*4+1,za⟩=zh (zw .i64 l)/\W.cell? ⟨g,n*4+2,za⟩=zh (zw .i64 r)/\W.cell? ⟨g,n*4+3,za⟩=zh sv:=by
 obtain⟨hl,ao,cap,rfl,h⟩:=h;have hn:=(n5.1 hx).1;obtain⟨g,rfl,hg,hc⟩:=h (by omega);have hd:Ns.getD n .zero=⟨k,l,r,sv⟩:=by simp[List.getD,hx]
 have:=hc n hn;rw[hd]at this;exact⟨g,cap,rfl,hn,hg,this 0 _ rfl,this 1 _ rfl,this 2 _ rfl,this 3 _ rfl⟩
def mC(w0:zi)(Ns:List bO):GT->Nat->Prop
 |.s p f,n=>n=p/\∃sv rs,Ns[n]?=zh ⟨115,0,0,sv⟩/\nk 0 w0 sv rs/\∀c,tR rs c=f c
 |.q a b,n=>∃l r,Ns[n]?=zh ⟨113,l,r,zn za 0 0⟩/\mC w0 Ns a l/\mC w0 Ns b r
 |.o a b,n=>∃l r,Ns[n]?=zh ⟨111,l,r,zn za 0 0⟩/\mC w0 Ns a l/\mC w0 Ns b r
 |.st a,n=>∃l,Ns[n]?=zh ⟨42,l,0,zn za 0 0⟩/\mC w0 Ns a l
 |.e,n=>Ns[n]?=zh ⟨101,0,0,zn za 0 0⟩
theorem mC.more{w0:zi}{Ns:List bO}(Ms:List bO):∀{T:GT} {n:Nat},mC w0 Ns T n->mC w0 (Ns++Ms) T n
 |.s p f,n,⟨h,sv,rs,h1,h2⟩=>⟨h,sv,rs,by rw[rU (n5.1 h1).1];exact h1,h2⟩
 |.q a b,n,⟨l,r,h1,h2,h3⟩=>⟨l,r,by rw[rU (n5.1 h1).1];exact h1,h2.more Ms,h3.more Ms⟩
 |.o a b,n,⟨l,r,h1,h2,h3⟩=>⟨l,r,by rw[rU (n5.1 h1).1];exact h1,h2.more Ms,h3.more Ms⟩
 |.st a,n,⟨l,h1,h2⟩=>⟨l,by rw[rU (n5.1 h1).1];exact h1,h2.more Ms⟩
 |.e,n,h=>by
  have h:Ns[n]?=zh ⟨101,0,0,zn za 0 0⟩:=h;show (Ns++Ms)[n]?=_;rw[rU (n5.1 h).1];exact h
theorem UD(w:zi)(a b:Obj):((w.alloc a).alloc b).heap[w.heap.size+1]?=zh b:=by
 have:=aU (w.alloc a) b
 simpa using this
theorem dM{t:zy}(h:W.heap[g]?=zh (zp #[a,b] t (0,0))):W.cell? ⟨g,0,za⟩=zh a/\W.cell? ⟨g,1,za⟩=zh b:=by
 have:∀o,W.cell? ⟨g,o,za⟩=#[a,b][o]?:=λ_=>dt _ _ _ _ _ _ h
 exact⟨this 0,this 1⟩
theorem eu{t:zy}(h:W.heap[g]?=zh (zp #[a,b,c,d] t (0,0))):W.cell? ⟨g,0,za⟩=zh a/\W.cell? ⟨g,1,za⟩=zh b/\W.cell? ⟨g,2,za⟩=zh c/\W.cell? ⟨g,3,za⟩=zh d:=by
 have:∀o,W.cell? ⟨g,o,za⟩=#[a,b,c,d][o]?:=λ_=>dt _ _ _ _ _ _ h
 exact⟨this 0,this 1,this 2,this 3⟩
theorem zoF{t:zy}(h:W.heap[g]?=zh (zp #[a,b,c,d] t (0,0))):W.frozen? ⟨g,0,za⟩=false/\W.frozen? ⟨g,1,za⟩=false/\W.frozen? ⟨g,2,za⟩=false/\W.frozen? ⟨g,3,za⟩=false:=
 ⟨aR _ _ 0 _ _ h,aR _ _ 1 _ _ h,aR _ _ 2 _ _ h,aR _ _ 3 _ _ h⟩
structure Bx(w W:zi)(nv bv:zx)(k l r sv:zx):Prop where
 bl:Below w.heap.size w W
 x0:W.heap[w.heap.size]?=zh (zp #[nv,bv] 80 (0,0))
 x1:W.heap[w.heap.size+1]?=zh (zp #[k,l,r,sv] 116 (0,0))
theorem Bx.start(h:(w.alloc (zp #[nv,bv] 80)).alloc (zp #[k,l,r,sv] 116)=W):Bx w W nv bv k l r sv:=by
 subst h;exact⟨(aC).alloc (by simp) _,JA (aU _ _),UD _ _ _⟩
theorem Bx.call(h:Bx w W nv bv k l r sv)(hb:Below W.heap.size W W'):Bx w W' nv bv k l r sv:=
 ⟨bi h.bl h.bl.size hb,(hb.block _ (az h.x0)).trans h.x0,(hb.block _ (az h.x1)).trans h.x1⟩
def BC(N:Nat)(m:Nat->Bool):Array zx:=((List.range N).map λi=>Value.bool (m i)).toArray
theorem zqo{i:Nat}(m:Nat->Bool)(h:i<N):(BC N m)[i]?=zh (.bool (m i)):=by simp[BC,h]
def gZ(w:zi)(g N:Nat)(m:Nat->Bool):Prop:=w.heap[g]?=zh (zp (BC N m) 4 (0,0))
theorem gZ.cell(h:gZ w g N m)(i:Nat)(hi:i<N):w.cell? ⟨g,i,za⟩=zh (.bool (m i)):=by
 rw[show w.cell? ⟨g,i,za⟩=(BC N m)[i]? from dt _ _ _ _ _ _ h];exact zqo m hi
theorem gZ.below(h:gZ w g N m)(hb:Below w.heap.size w W):gZ W g N m:=(hb.block g (az h)).trans h
def Eu(w0:zi)(T:GT):Prop:=∀(Ns:List bO) (n:Nat) (w:zi) (nv bv:zx),uL w nv Ns->mC w0 Ns T n->
 Calls prog 57 #[.agg #[nv,bv],zw .i64 n] w λe W=>e=.returned (.bool T.ga.fy)/\Below w.heap.size w W
theorem zfy(w0:zi)(T:GT)(k:Nat)(hk:(k=115/\T.ga.fy=false)\/(k=42/\T.ga.fy=true)\/(k=101/\T.ga.fy=true))(hT:∀Ns n,mC w0 Ns T n->∃l r ao m cp,Ns[n]?=zh ⟨k,l,r,.slice ao m cp⟩):Eu w0 T:=by
 intro Ns n w nv bv hN hA;obtain⟨l,r,ao,m,cp,hx⟩:=hT Ns n hA;obtain⟨g,cap,rfl,hn,hg,c0,c1,c2,c3⟩:=hN.node hx;have hl:=hN.len;have fk:(0:Int)<=(n:Int):=by omega
 have cG:(n:Int)<(Ns.length:Int):=by omega
 clear hA hx hN hT;rcases hk with ⟨rfl,he⟩|⟨rfl,he⟩|⟨rfl,he⟩
 all_goals
  rw[he];clear he
  go_enter func57,ntmps57
  go_wp2;go_ret;exact⟨rfl,(aC).alloc (by simp) _⟩
theorem zsj(w0:zi)(a b:GT)(ha:Eu w0 a)(hb:Eu w0 b):Eu w0 (.q a b):=by
 intro Ns n w nv bv hN hA;rw[show (GT.q a b).ga.fy=(a.ga.fy&&b.ga.fy) from rfl];obtain⟨l,r,hx,hl,hr⟩:=hA;obtain⟨g,cap,rfl,hn,hg,c0,c1,c2,c3⟩:=hN.node hx;have jF:=hN.len;have fk:(0:Int)<=(n:Int):=by omega
 have cG:(n:Int)<(Ns.length:Int):=by omega
 obtain⟨W0,ay⟩:∃W0,(w.alloc (zp #[zn (zh ⟨g,0,za⟩) Ns.length cap,bv] 80)).alloc (zp #[.int .u8 113,zw .i64 l,zw .i64 r,zn za 0 0] 116)=W0:=⟨_,rfl⟩;have bY:=Bx.start ay;have kF:=hN.below bY.bl;obtain⟨p0,p1⟩:=dM bY.x0;obtain⟨q0,q1,q2,q3⟩:=eu bY.x1;have ca:=ha Ns l W0 _ bv kF hl;have bQ:=ag ay;have iO:=ag bY;have uF:=ag kF;clear hx hN kF ay bY
 go_enter func57,ntmps57
 go_upto_region 2 with fail
 rw[bQ.out];clear bQ c0 c1 c2 c3
 go_wp2_with fail
 refine ca.mono ?_;rintro e W1 ⟨rfl,b1⟩;have eE:=ag (iO.out.call b1);obtain⟨p0,p1⟩:=dM eE.out.x0;obtain⟨q0,q1,q2,q3⟩:=eu eE.out.x1;have uG:=ag (uF.out.below b1);have cb:=hb Ns r W1 _ bv uG.out hr;clear ca uG uF;cases he:a.ga.fy
 ·go_wp2;go_ret;exact⟨by simp[he],eE.out.bl⟩
 ·go_wp2_with fail
  refine cb.mono ?_;rintro e W2 ⟨rfl,b2⟩;go_wp2;go_ret;exact⟨by simp[he],(eE.out.call b2).bl⟩
theorem zsi(w0:zi)(a b:GT)(ha:Eu w0 a)(hb:Eu w0 b):Eu w0 (.o a b):=by
 intro Ns n w nv bv hN hA;rw[show (GT.o a b).ga.fy=(a.ga.fy || b.ga.fy) from rfl];obtain⟨l,r,hx,hl,hr⟩:=hA;obtain⟨g,cap,rfl,hn,hg,c0,c1,c2,c3⟩:=hN.node hx;have jF:=hN.len;have fk:(0:Int)<=(n:Int):=by omega
 have cG:(n:Int)<(Ns.length:Int):=by omega
 obtain⟨W0,ay⟩:∃W0,(w.alloc (zp #[zn (zh ⟨g,0,za⟩) Ns.length cap,bv] 80)).alloc (zp #[.int .u8 111,zw .i64 l,zw .i64 r,zn za 0 0] 116)=W0:=⟨_,rfl⟩;have bY:=Bx.start ay;have kF:=hN.below bY.bl;obtain⟨p0,p1⟩:=dM bY.x0;obtain⟨q0,q1,q2,q3⟩:=eu bY.x1;have ca:=ha Ns l W0 _ bv kF hl;have bQ:=ag ay;have iO:=ag bY;have uF:=ag kF;clear hx hN kF ay bY
 go_enter func57,ntmps57
 go_upto_region 2 with fail
 rw[bQ.out];clear bQ c0 c1 c2 c3
 go_wp2_with fail
 refine ca.mono ?_;rintro e W1 ⟨rfl,b1⟩;have eE:=ag (iO.out.call b1);obtain⟨p0,p1⟩:=dM eE.out.x0;obtain⟨q0,q1,q2,q3⟩:=eu eE.out.x1;have uG:=ag (uF.out.below b1);have cb:=hb Ns r W1 _ bv uG.out hr;clear ca uG uF;cases he:a.ga.fy
 ·go_wp2_with fail
  refine cb.mono ?_;rintro e W2 ⟨rfl,b2⟩;go_wp2;go_ret;exact⟨by simp[he],(eE.out.call b2).bl⟩
 ·go_wp2;go_ret;exact⟨by simp[he],eE.out.bl⟩
theorem Jq(w0:zi):∀T:GT,Eu w0 T
 |.s _ _=>zfy w0 _ 115 (.inl ⟨rfl,rfl⟩) λ_ _ ⟨_,_,rs,h1,⟨ao,cp,h2,_⟩,_⟩=>⟨0,0,ao,rs.length,cp,h2 ▸ h1⟩
 |.q a b=>zsj w0 a b (Jq w0 a) (Jq w0 b)
 |.o a b=>zsi w0 a b (Jq w0 a) (Jq w0 b)
 |.st _=>zfy w0 _ 42 (.inr (.inl ⟨rfl,rfl⟩)) λ_ _ ⟨l,h1,_⟩=>⟨l,0,za,0,0,h1⟩
 |.e=>zfy w0 _ 101 (.inr (.inr ⟨rfl,rfl⟩)) λ_ _ h=>⟨0,0,za,0,0,h⟩
def zE(w0:zi)(T:GT):Prop:=∀(Ns:List bO) (n:Nat) (w:zi) (nv bv:zx) (gm cm N:Nat) (m:Nat->Bool),uL w nv Ns->mC w0 Ns T n->gZ w gm N m->Ns.length<=N->
 Calls prog 56 #[.agg #[nv,bv],zw .i64 n,zn (zh ⟨gm,0,za⟩) N cm] w λe W=>e=.returned (.bool (ii m T))/\Below w.heap.size w W
theorem zsl(w0:zi):zE w0 .e:=by
 intro Ns n w nv bv gm cm N m hN hA hM sw;have hx:Ns[n]?=zh ⟨101,0,0,zn za 0 0⟩:=hA;clear hA;obtain⟨g,cap,rfl,hn,hg,c0,c1,c2,c3⟩:=hN.node hx;have jF:=hN.len;have fk:(0:Int)<=(n:Int):=by omega
 have cG:(n:Int)<(Ns.length:Int):=by omega
 obtain⟨W0,ay⟩:∃W0,(w.alloc (zp #[zn (zh ⟨g,0,za⟩) Ns.length cap,bv] 80)).alloc (zp #[.int .u8 101,zw .i64 0,zw .i64 0,zn za 0 0] 116)=W0:=⟨_,rfl⟩;have bY:=Bx.start ay;have kF:=hN.below bY.bl;obtain⟨p0,p1⟩:=dM bY.x0;obtain⟨q0,q1,q2,q3⟩:=eu bY.x1;have bQ:=ag ay;have iO:=ag bY;have uF:=ag kF;clear hx hN kF ay bY
 go_enter func56,ntmps56
 go_upto_region 2 with fail
 rw[bQ.out];clear bQ c0 c1 c2 c3;clear sw;go_wp2;go_ret;exact⟨rfl,iO.out.bl⟩
theorem zso(w0:zi)(p:Nat)(f:Nat->Bool):zE w0 (.s p f):=by
 intro Ns n w nv bv gm cm N m hN hA hM sw;obtain⟨rfl,sv,rs,hx,⟨ao,cp,rfl,-⟩,-⟩:=hA;obtain⟨g,cap,rfl,hn,hg,c0,c1,c2,c3⟩:=hN.node hx;have jF:=hN.len;have fk:(0:Int)<=(n:Int):=by omega
 have cG:(n:Int)<(Ns.length:Int):=by omega
 obtain⟨W0,ay⟩:∃W0,(w.alloc (zp #[zn (zh ⟨g,0,za⟩) Ns.length cap,bv] 80)).alloc (zp #[.int .u8 115,zw .i64 0,zw .i64 0,.slice ao rs.length cp] 116)=W0:=⟨_,rfl⟩;have bY:=Bx.start ay;have kF:=hN.below bY.bl;obtain⟨p0,p1⟩:=dM bY.x0;obtain⟨q0,q1,q2,q3⟩:=eu bY.x1;have WQ:=(hM.below bY.bl).cell n (by omega);have pR:(n:Int)<(N:Int):=by omega
 have bQ:=ag ay;have iO:=ag bY;have uF:=ag kF;clear hx hN kF ay bY
 go_enter func56,ntmps56
 go_upto_region 2 with fail
 rw[bQ.out];clear bQ c0 c1 c2 c3;clear hM sw;go_wp2;go_ret;exact⟨rfl,iO.out.bl⟩
theorem zqD(w0:zi)(a:GT)(ha:zE w0 a):zE w0 (.st a):=by
 intro Ns n w nv bv gm cm N m hN hA hM sw;obtain⟨l,hx,hl⟩:=hA;obtain⟨g,cap,rfl,hn,hg,c0,c1,c2,c3⟩:=hN.node hx;have jF:=hN.len;have fk:(0:Int)<=(n:Int):=by omega
 have cG:(n:Int)<(Ns.length:Int):=by omega
 obtain⟨W0,ay⟩:∃W0,(w.alloc (zp #[zn (zh ⟨g,0,za⟩) Ns.length cap,bv] 80)).alloc (zp #[.int .u8 42,zw .i64 l,zw .i64 0,zn za 0 0] 116)=W0:=⟨_,rfl⟩;have bY:=Bx.start ay;have kF:=hN.below bY.bl;obtain⟨p0,p1⟩:=dM bY.x0;obtain⟨q0,q1,q2,q3⟩:=eu bY.x1;have ca:=ha Ns l W0 _ bv gm cm N m kF hl (hM.below bY.bl) sw;have bQ:=ag ay;have iO:=ag bY;have uF:=ag kF;clear hx hN kF ay bY
 go_enter func56,ntmps56
 go_upto_region 2 with fail
 rw[bQ.out];clear bQ c0 c1 c2 c3;clear hM sw
 go_wp2_with fail
 refine ca.mono ?_;rintro e W1 ⟨rfl,b1⟩;go_wp2;go_ret;exact⟨rfl,(iO.out.call b1).bl⟩
theorem zsm(w0:zi)(a b:GT)(ha:zE w0 a)(hb:zE w0 b):zE w0 (.o a b):=by
 intro Ns n w nv bv gm cm N m hN hA hM sw;rw[show ii m (.o a b)=(ii m a || ii m b) from rfl];obtain⟨l,r,hx,hl,hr⟩:=hA;obtain⟨g,cap,rfl,hn,hg,c0,c1,c2,c3⟩:=hN.node hx;have jF:=hN.len;have fk:(0:Int)<=(n:Int):=by omega
 have cG:(n:Int)<(Ns.length:Int):=by omega
 obtain⟨W0,ay⟩:∃W0,(w.alloc (zp #[zn (zh ⟨g,0,za⟩) Ns.length cap,bv] 80)).alloc (zp #[.int .u8 111,zw .i64 l,zw .i64 r,zn za 0 0] 116)=W0:=⟨_,rfl⟩;have bY:=Bx.start ay;have kF:=hN.below bY.bl;obtain⟨p0,p1⟩:=dM bY.x0;obtain⟨q0,q1,q2,q3⟩:=eu bY.x1;have ca:=ha Ns l W0 _ bv gm cm N m kF hl (hM.below bY.bl) sw;have bQ:=ag ay;have iO:=ag bY;have uF:=ag kF;clear hx hN kF ay bY
 go_enter func56,ntmps56
 go_upto_region 2 with fail
 rw[bQ.out];clear bQ c0 c1 c2 c3;have mF:=ag sw;clear sw
 go_wp2_with fail
 refine ca.mono ?_;rintro e W1 ⟨rfl,b1⟩;have eE:=ag (iO.out.call b1);obtain⟨p0,p1⟩:=dM eE.out.x0;obtain⟨q0,q1,q2,q3⟩:=eu eE.out.x1;have uG:=ag (uF.out.below b1);have cb:=hb Ns r W1 _ bv gm cm N m uG.out hr (hM.below eE.out.bl) mF.out;clear ca uG uF hM;cases he:ii m a
 ·go_wp2_with fail
  refine cb.mono ?_;rintro e W2 ⟨rfl,b2⟩;go_wp2;go_ret;exact⟨by simp[he],(eE.out.call b2).bl⟩
 ·go_wp2;go_ret;exact⟨by simp[he],eE.out.bl⟩
theorem zsn(w0:zi)(a b:GT)(ha:zE w0 a)(hb:zE w0 b):zE w0 (.q a b):=by
 intro Ns n w nv bv gm cm N m hN hA hM sw;rw[show ii m (.q a b)=(ii m b || (ii m a&&b.ga.fy)) from rfl];obtain⟨l,r,hx,hl,hr⟩:=hA;obtain⟨g,cap,rfl,hn,hg,c0,c1,c2,c3⟩:=hN.node hx;have jF:=hN.len;have fk:(0:Int)<=(n:Int):=by omega
 have cG:(n:Int)<(Ns.length:Int):=by omega
 obtain⟨W0,ay⟩:∃W0,(w.alloc (zp #[zn (zh ⟨g,0,za⟩) Ns.length cap,bv] 80)).alloc (zp #[.int .u8 113,zw .i64 l,zw .i64 r,zn za 0 0] 116)=W0:=⟨_,rfl⟩;have bY:=Bx.start ay;have kF:=hN.below bY.bl;obtain⟨p0,p1⟩:=dM bY.x0;obtain⟨q0,q1,q2,q3⟩:=eu bY.x1;have cb:=hb Ns r W0 _ bv gm cm N m kF hr (hM.below bY.bl) sw;have bQ:=ag ay;have iO:=ag bY;have uF:=ag kF;clear hx hN kF ay bY
 go_enter func56,ntmps56
 go_upto_region 2 with fail
 rw[bQ.out];clear bQ c0 c1 c2 c3;have mF:=ag sw;clear sw
 go_wp2_with fail
 refine cb.mono ?_;rintro e W1 ⟨rfl,b1⟩;have eE:=ag (iO.out.call b1);obtain⟨p0,p1⟩:=dM eE.out.x0;obtain⟨q0,q1,q2,q3⟩:=eu eE.out.x1;have uG:=ag (uF.out.below b1);have ca:=ha Ns l W1 _ bv gm cm N m uG.out hl (hM.below eE.out.bl) mF.out;clear cb uF hM;cases he:ii m b
 ·go_wp2_with fail
  refine ca.mono ?_;rintro e W2 ⟨rfl,b2⟩;have n6:=ag (eE.out.call b2);obtain⟨p0,p1⟩:=dM n6.out.x0;obtain⟨q0,q1,q2,q3⟩:=eu n6.out.x1;have zJ:=ag (uG.out.below b2);have ce:=Jq w0 b Ns r W2 _ bv zJ.out hr;clear ca uG;cases Ys:ii m a
  ·go_wp2;go_ret;exact⟨by simp[he,Ys],n6.out.bl⟩
  ·go_wp2_with fail
   refine ce.mono ?_;rintro e W3 ⟨rfl,b3⟩;go_wp2;go_ret;exact⟨by simp[he,Ys],(n6.out.call b3).bl⟩
 ·go_wp2;go_ret;exact⟨by simp[he],eE.out.bl⟩
theorem DM(w0:zi):∀T:GT,zE w0 T
 |.s p f=>zso w0 p f
 |.q a b=>zsn w0 a b (DM w0 a) (DM w0 b)
 |.o a b=>zsm w0 a b (DM w0 a) (DM w0 b)
 |.st a=>zqD w0 a (DM w0 a)
 |.e=>zsl w0
end
theorem TS(W:zi)(b j:Nat)(v:zx):W.grownBy (W.setCell ⟨b,j,za⟩ v) (zh b):=
 ⟨rfl,rfl,rfl,by simp,λk _ hk=>Below.heap_setCell W _ _ k (λe=>hk (by rw[e]))⟩
theorem zkA{w:zi}{base:Nat}{e:zy}{g n:Nat}{xs:List zx}(h:w.ownsRow base e 1 (zn (zh ⟨g,0,za⟩) n n) n xs):w.heap[g]?=zh (zp xs.toArray e (0,0)):=by
 rcases h.2 with ⟨h,_⟩|⟨g',cap,cr,h,_,ff,_,_,hsz,jH⟩
 ·cases h
 ·cases h
  rw[ff]
  congr 2
  apply Array.ext'
  rw[tj (by simp[hsz])]at jH;rw[jH]
end
section
attribute [local go_sem] Oper.semAt_some
end
variable {S:Nat -> Prop}{w A B:zi}
attribute [local go_sem] Oper.semAt_some
structure lz(S:Nat->Prop)(w W:zi):Prop where
 os:W.os=w.os
 tape:W.tape=w.tape
 output:W.output=w.output
 size:w.heap.size<=W.heap.size
 same:∀k,k<w.heap.size->¬S k->W.heap[k]?=w.heap[k]?
theorem lz.grown{o:Option Nat}(h:lz S w A)(hg:A.grownBy B o)(hS:∀g,o=zh g->S g\/w.heap.size<=g):lz S w B:=
 ⟨hg.os.trans h.os,hg.tape.trans h.tape,hg.output.trans h.output,cM h.size hg.size,λk hk hs=>by
  refine(hg.block k (fR hk h.size) (λe=>?_)).trans (h.same k hk hs);rcases hS k e.symm with h1|h1
  ·exact hs h1
  ·omega⟩
theorem lz.trans(h:lz S w A)(k:lz S A B):lz S w B:=
 ⟨k.os.trans h.os,k.tape.trans h.tape,k.output.trans h.output,cM h.size k.size,λi hi hs=>(k.same i (fR hi h.size) hs).trans (h.same i hi hs)⟩
theorem lz.wT(h:Below w.heap.size w A):lz S w A:=⟨h.os,h.tape,h.output,h.size,λk hk _=>h.block k hk⟩
end Go.Proofs.Ytfajjdgkiilhfaa
