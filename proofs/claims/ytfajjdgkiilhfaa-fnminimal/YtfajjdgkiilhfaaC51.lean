import Derived.Test.YtfajjdgkiilhfaaC50
import Derived.ProofKit
import Derived.Deep.Slices
import Derived.Deep.Strs
import Derived.Lib.SmallJoins
import Derived.Test.YtfajjdgkiilhfaaRows
import Derived.ChangeMaps5
namespace Go.Proofs.Ytfajjdgkiilhfaa
open Proofs.Try
open Option renaming some->za,none->zh
open Value renaming int->zi,slice->zn,agg->zD
open Obj renaming cells->zp
open RowKit renaming Hid->zw,Below->zx
open Go renaming World->zy,Value->zB
set_option maxHeartbeats 8000000
set_option maxRecDepth 100000
open Go.RowKit
attribute [local go_sem ↓] wp_at_zero wp_at_succ
section
variable {G lo K k c g0 k0 g1 k1:Nat}{W W5:zy}{d:aE}{l0 l1 l2 l3:List Int}{wd:Int}{xs:List Nat}
def qF(xs:List Nat):List Int:=xs.map λ(x:Nat)=>(x:Int)
theorem zlO(xs:List Nat):(qF xs).length=xs.length:=by simp[qF]
noncomputable def xyL (d:aE) (K:Nat) (xs:List Nat):Nat->List Int
 |0=>qF xs
 |_=>qF (xs.map (gU d K))
theorem aS.zBh(hG:W.heap.size=G+1):aS G 2 ((W.alloc (zp #[zi .i64 0] 3)).alloc (zp #[zi .i64 0] 3)) (λi=>if i=0 then zn (za ⟨G+1,0,zh⟩) 1 1 else zn (za ⟨G+2,0,zh⟩) 1 1) (λ_=>[0]):=by
 have h0:((W.alloc (zp #[zi .i64 0] 3)).alloc (zp #[zi .i64 0] 3)).heap[G+1]?=za (zp #[zi .i64 0] 3 (0,0)):=by rw[<-hG];exact(Below.heap_alloc _ _ _ (by simp)).trans (aU _ _)
 have h1:((W.alloc (zp #[zi .i64 0] 3)).alloc (zp #[zi .i64 0] 3)).heap[G+2]?=za (zp #[zi .i64 0] 3 (0,0)):=by
  have:=aU (W.alloc (zp #[zi .i64 0] 3)) (zp #[zi .i64 0] 3);rw[show (W.alloc (zp #[zi .i64 0] 3)).heap.size=G+2 by simp[hG]]at this;exact this
 have key:∀g,G+1<=g->((W.alloc (zp #[zi .i64 0] 3)).alloc (zp #[zi .i64 0] 3)).heap[g]?=za (zp #[zi .i64 0] 3 (0,0))->dQ (G+1) ((W.alloc (zp #[zi .i64 0] 3)).alloc (zp #[zi .i64 0] 3)) (zn (za ⟨g,0,zh⟩) 1 1) [0]:=λg hg hr=>⟨rfl,.inr ⟨g,1,#[zi .i64 0],rfl,hg,hr,by simp,by unfold maxLen;omega,rfl,rfl⟩⟩
 refine⟨λi hi=>?_,λi j hi hj hne b hb=>?_⟩
 ·by_cases e:i=0
  ·simp only[ae e];exact key _ (by omega) h0
  ·simp only[ab e];exact key _ (by omega) h1
 ·by_cases e:i=0<;>by_cases e2:j=0
  ·omega
  ·simp only[ae e]at hb;simp only[ab e2];simp[Value.ownBlock]at hb ⊢;omega
  ·simp only[ab e]at hb;simp only[ae e2];simp[Value.ownBlock]at hb ⊢;omega
  ·omega
def vXY(g0 k0 g1 k1 n m:Nat):Nat->zB
 |0=>zn (za ⟨g0,0,zh⟩) n k0
 |_=>zn (za ⟨g1,0,zh⟩) m k1
structure RdA(W5:zy)(X:Nat)(d:aE)(cb co nb no tb qI eb eo n0 c0 n1 c1 c2 c3:Nat)(W:zy):Prop where
 s0:W.cell? ⟨X,0,zh⟩=za (zn (za ⟨cb,co,zh⟩) n0 c0)
 s1:W.cell? ⟨X,1,zh⟩=za (zi .i64 (aW d:Int))
 s2:W.cell? ⟨X,2,zh⟩=za (zn (za ⟨nb,no,zh⟩) n1 c1)
 s3:W.cell? ⟨X,3,zh⟩=za (zn (za ⟨tb,qI,zh⟩) d.tag.length c2)
 s4:W.cell? ⟨X,4,zh⟩=za (zn (za ⟨eb,eo,zh⟩) d.tag.length c3)
 cls:∀ch,ch<256->W.cell? ⟨cb,co+ch,zh⟩=za (zi .i64 (eH d ch:Int))
 nxt:∀x c,x<d.tag.length->c<aW d->W.cell? ⟨nb,no+(x*aW d+c),zh⟩=za (zi .i64 (bU d x c:Int))/\x*aW d+c<n1
 tag:∀x,x<d.tag.length->W.cell? ⟨tb,qI+x,zh⟩=za (zi .i64 (d.tag.getD x 0))
 fin:∀x,x<d.tag.length->W.cell? ⟨eb,eo+x,zh⟩=za (zi .i64 (d.fin.getD x 0))
 ZT:n0=256
theorem zrV{X:Nat}{a0 a1 a2 a3:Option Addr}{n0 c0 n1 c1 n2 c2 n3 c3:Nat}(hD:dk lo W5 (.slice a0 n0 c0) (.slice a1 n1 c1) (.slice a2 n2 c2) (.slice a3 n3 c3) d)(hf:cL d)(hx:∀W,zx W5.heap.size W5 W->W.heap[X]?=za (zp #[.slice a0 n0 c0,zi .i64 d.width,.slice a1 n1 c1,.slice a2 n2 c2,.slice a3 n3 c3] 25 (0,0))):
  ∃cb co nb no tb qI eb eo,a0=za ⟨cb,co,zh⟩/\a1=za ⟨nb,no,zh⟩/\a2=za ⟨tb,qI,zh⟩/\a3=za ⟨eb,eo,zh⟩/\n2=d.tag.length/\n3=d.tag.length/\∀W,zx W5.heap.size W5 W->RdA W5 X d cb co nb no tb qI eb eo n0 c0 n1 c1 c2 c3 W:=by
 have jG:=hf.n1;have tU:=hf.fl;have bn:=hf.cl;have hwd:=hf.wd;obtain⟨⟨x0,y0,e0,_,h0⟩,⟨x1,y1,e1,_,h1⟩,⟨x2,y2,e2,_,h2⟩,⟨x3,y3,e3,_,h3⟩⟩:=hD;injection e0 with e00 e01 e02
 injection e1 with e10 e11 e12
 injection e2 with e20 e21 e22
 injection e3 with e30 e31 e32
 obtain⟨cb,co,q0,_,l0,k0⟩:=h0 (by omega);obtain⟨nb,no,q1,_,l1,k1⟩:=h1 (by rw[hf.FY];exact Nat.mul_pos (by omega) (by omega));obtain⟨tb,qI,q2,_,l2,k2⟩:=h2 (by omega);obtain⟨eb,eo,q3,_,l3,k3⟩:=h3 (by omega);refine⟨cb,co,nb,no,tb,qI,eb,eo,e00.trans q0,e10.trans q1,e20.trans q2,e30.trans q3,e21,e31.trans tU,λW hb=>?_⟩;have hr:=bL (hx W hb);rw[e00,e10,e20,e30,q0,q1,q2,q3,e21,e31,tU,hwd.1]at hr;obtain⟨r0,r1,r2,r3,r4⟩:=hr;refine⟨r0,r1,r2,r3,r4,λch hch=>?_,λx c hx hc=>?_,λx hx=>?_,λx hx=>?_,by omega⟩
 ·rw[hb.cell (p:=⟨cb,co+ch,zh⟩) l0,k0 ch (by omega),(hf.sf hch).1]
 ·exact⟨by rw[hb.cell (p:=⟨nb,no+(x*aW d+c),zh⟩) l1,k1 _ (hf.uh hx hc),(hf.nx hx hc).1],by rw[e11];exact hf.uh hx hc⟩
 ·rw[hb.cell (p:=⟨tb,qI+x,zh⟩) l2,k2 x hx]
 ·rw[hb.cell (p:=⟨eb,eo+x,zh⟩) l3,k3 x (by omega)]
theorem zo5(h:dy d K):(⟨dA (minD d K) 0,km (minD d K),dA (minD d K) 1,dA (minD d K) 2,dA (minD d K) 3⟩:aE)=minD d K:=by
 obtain⟨_,h2⟩:=zo6 h.wq;rw[<-h2,Uy h.again.go h.again.len];exact h.Te
theorem zkm(h:dy d K):Ce (minD d K):=by
 have h1:=h.wq.cl;have h2:=h.wq.n2;have h3:=h.wq.fl;have h4:=h.wq.FY;have h5:=h.wq.wd;have:=nt (show (minD d K).tag.length<=4000 by omega) h5.2.2;exact⟨by omega,by omega,by omega,by omega⟩
theorem zqz{w:zy}{a0 a1 a2 a3:zB}(h0:dW lo w a0 l0)(h1:dW lo w a1 l1)(h2:dW lo w a2 l2)(h3:dW lo w a3 l3):dk lo w a0 a1 a2 a3 ⟨l0,wd,l1,l2,l3⟩:=⟨h0,h1,h2,h3⟩
theorem znq(h:(⟨l0,wd,l1,l2,l3⟩:aE)=d):wd=d.width:=by
 subst h
 rfl
theorem zlK(cv nv tv ev:zB){d:aE}{K:Nat}(h:dy d K)(w:zy)(hs:dk lo w cv nv tv ev (minD d K)):
  Calls prog 5 #[zD #[cv,zi .i64 (minD d K).width,nv,tv,ev]] w λe w'=>∃u,e=.returned u/\∃u0 u1 u2 u3,u=zD #[u0,zi .i64 (minD d K).width,u1,u2,u3]/\dk 0 w' u0 u1 u2 u3 (minD d K)/\zx w.heap.size w w':=by
 refine(zea cv nv tv ev (minD d K) w hs (zkm h)).mono ?_;rintro e w' ⟨gt,v,rfl,iV,hF,hb⟩;have hm:=zo5 h;have hl:=zmD (minD d K);have hO:∀i,i<4->dW 0 w' (v i) (dA (minD d K) i):=λi hi=>((hF.own i hi).at (by have:=hl i hi;omega)).low (bH _)
 have hD:dk 0 w' (v 0) (v 1) (v 2) (v 3) ⟨dA (minD d K) 0,km (minD d K),dA (minD d K) 1,dA (minD d K) 2,dA (minD d K) 3⟩:=zqz (hO 0 (by omega)) (hO 1 (by omega)) (hO 2 (by omega)) (hO 3 (by omega));have hw:km (minD d K)=(minD d K).width:=znq hm;rw[hm]at hD;exact⟨_,rfl,v 0,v 1,v 2,v 3,by unfold fH;rw[hw],hD,hb⟩
theorem zoz(xs:Array zB)(w:zy):(callFunc 5 xs).run prog w=.ok (.enter 5 xs) w:=by kernel_rfl
theorem znt(xs:Array zB)(w:zy):(callFunc 8 xs).run prog w=.ok (.enter 8 xs) w:=by kernel_rfl
structure CU(d:aE)(K G:Nat)(W5:zy)(k c:Nat)(xs:List Nat)(g0 k0 g1 k1:Nat)(W:zy):Prop where
 xw:qq d K k c xs
 aq:aS G 2 W (vXY g0 k0 g1 k1 xs.length xs.length) (xyL d K xs)
 vX:zx W5.heap.size W5 W
 low:W5.heap.size<=G+1/\G+1<=W.heap.size
theorem CU.cell(h:CU d K G W5 k c xs g0 k0 g1 k1 W){j:Nat}(hj:j<xs.length):W.cell? ⟨g0,j,zh⟩=za (zi .i64 ((xs.getD j 0:Nat):Int))/\W.cell? ⟨g1,j,zh⟩=za (zi .i64 ((gU d K (xs.getD j 0):Nat):Int)):=by
 have key:∀i g cap (ys:List Nat),i<2->vXY g0 k0 g1 k1 xs.length xs.length i=zn (za ⟨g,0,zh⟩) xs.length cap->xyL d K xs i=qF ys->ys.length=xs.length->W.cell? ⟨g,j,zh⟩=za (zi .i64 ((ys.getD j 0:Nat):Int)):=λi g cap ys hi e1 e2 e3=>by
  have ho:=h.aq.own i hi;rw[e1,e2]at ho;have ho:W.ownsRow (G+1) 3 1 (zn (za ⟨g,0,zh⟩) xs.length cap) (qF ys).length ((qF ys).map mU):=ho;rw[zlO,e3]at ho;rw[ho.cellAt j (by omega)];simp[qF,mU,List.getD,show j<ys.length by omega]
 refine⟨key 0 g0 k0 xs (by omega) rfl rfl rfl,?_⟩;have:=key 1 g1 k1 (xs.map (gU d K)) (by omega) rfl rfl (by simp);rw[this];simp[List.getD,hj]
theorem CU.to{k' c':Nat}{W':zy}(h:CU d K G W5 k c xs g0 k0 g1 k1 W)(hx:qq d K k' c' xs)(hb:zx W.heap.size W W'):CU d K G W5 k' c' xs g0 k0 g1 k1 W':=⟨hx,h.aq.below hb,h.vX.trans (hb.mono (by have:=h.low;omega)),by have:=h.low;have:=hb.size;omega⟩
theorem zjd(w:zy)(ao mo:Option Addr)(c:List UInt8)(n cap ZR:Nat)(hc:JF w ao c)(hn:c.length<=9223372036854775807)(hm:n<=9223372036854775807):
  Calls prog 3 #[.slice ao c.length cap,.slice mo n ZR] w λe W=>e=.returned (.bool true)/\zx w.heap.size w W:=by
 have du:prog.follows .mixedOrders=true:=by kernel_rfl
 by_cases ve:1048576<c.length
 ·have h1:(1048576:Int)<(c.length:Int):=by omega
  go_enter func3,ntmps3
  go_wp2;go_ret;exact⟨rfl,Below.refl _ _⟩
 have h1:¬(1048576:Int)<(c.length:Int):=by omega
 by_cases FD:1048576<n
 ·have h2:(1048576:Int)<(n:Int):=by omega
  go_enter func3,ntmps3
  go_wp2;go_ret;exact⟨rfl,Below.refl _ _⟩
 have h2:¬(1048576:Int)<(n:Int):=by omega
 have hsm:=zm6 c 0 0;have QG:=ah λW (hb:zx w.heap.size w W)=>zgN W c ao cap (hc.below hb) (by omega)
 generalize CZ c 0 0=d at *;have G0:=ah hsm;obtain⟨cl,bn⟩:∃cl,c.length=cl:=⟨_,rfl⟩;rw[bn]at h1 QG ⊢;clear ve FD hc hn hm hsm bn
 go_enter func3,ntmps3
 go_wp2_with fail
 refine(QG.out w (Below.refl _ _)).mono ?_;rintro e w1 ⟨cv,nv,tv,ev,rfl,Ij,aP⟩;obtain⟨a0,n0,c0,a1,n1,c1,a2,n2,c2,a3,n3,c3,e0,e1,e2,e3⟩:=Ij.form;rw[e0,e1,e2,e3]at Ij ⊢;clear e0 e1 e2 e3;obtain⟨W2,dY⟩:∃W2,w1.alloc (zp #[.slice a0 n0 c0,zi .i64 d.width,.slice a1 n1 c1,.slice a2 n2 c2,.slice a3 n3 c3] 25)=W2:=⟨_,rfl⟩;have aL:zx w1.heap.size w1 W2:=by rw[<-dY];exact aC
 have z2:W2.heap[w1.heap.size]?=za (zp #[.slice a0 n0 c0,zi .i64 d.width,.slice a1 n1 c1,.slice a2 n2 c2,.slice a3 n3 c3] 25 (0,0)):=by rw[<-dY];exact aU _ _
 have B2:=bi aP aP.size aL
 go_wp2_with fail
 refine(QG.out W2 B2).mono ?_;rintro e w3 ⟨cv,nv,tv,ev,rfl,nH,cN⟩
 go_wp2_with fail
 refine(zea cv nv tv ev d w3 nH G0.out).mono ?_;rintro e w4 ⟨gt,v,rfl,iV,nI,bZ⟩;have B3:=bi B2 B2.size cN;have B4:=bi B3 B3.size bZ;have z4:=aY (aY z2 cN) bZ;have D4:=((Ij.below aL).below cN).below bZ;obtain⟨⟨p0,f0⟩,o0⟩:=cJ (nI.own 0 (by omega));obtain⟨⟨p1,f1⟩,o1⟩:=cJ (nI.own 1 (by omega));obtain⟨⟨p2,f2⟩,o2⟩:=cJ (nI.own 2 (by omega));obtain⟨⟨p3,f3⟩,o3⟩:=cJ (nI.own 3 (by omega));simp only at o0 o1 o2 o3;have ff:fH (km d) v=#[.slice p0 (dA d 0).length f0,zi .i64 (km d),.slice p1 (dA d 1).length f1,.slice p2 (dA d 2).length f2,.slice p3 (dA d 3).length f3]:=by unfold fH;rw[o0,o1,o2,o3]
 have hl:=zmD d;have D4m:dk 0 w4 (.slice p0 (dA d 0).length f0) (.slice p1 (dA d 1).length f1) (.slice p2 (dA d 2).length f2) (.slice p3 (dA d 3).length f3) ⟨dA d 0,km d,dA d 1,dA d 2,dA d 3⟩:=by
  have hO:∀i,i<4->dW 0 w4 (v i) (dA d i):=λi hi=>((nI.own i hi).at (by have:=hl i hi;omega)).low (bH _)
  exact⟨o0 ▸ hO 0 (by omega),o1 ▸ hO 1 (by omega),o2 ▸ hO 2 (by omega),o3 ▸ hO 3 (by omega)⟩
 rw[ff];obtain⟨W5,gL⟩:∃W5,w4.alloc (zp #[.slice p0 (dA d 0).length f0,zi .i64 (km d),.slice p1 (dA d 1).length f1,.slice p2 (dA d 2).length f2,.slice p3 (dA d 3).length f3] 25)=W5:=⟨_,rfl⟩;have cO:zx w4.heap.size w4 W5:=by rw[<-gL];exact aC
 have y5:W5.heap[w4.heap.size]?=za (zp #[.slice p0 (dA d 0).length f0,zi .i64 (km d),.slice p1 (dA d 1).length f1,.slice p2 (dA d 2).length f2,.slice p3 (dA d 3).length f3] 25 (0,0)):=by rw[<-gL];exact aU _ _
 have GM:=ah (bi B4 B4.size cO);have z5:=aY z4 cO;have QF:=ah (D4.below cO);have jh:=ah (D4m.below cO);have ri:w1.heap.size<w4.heap.size:=az z4;clear Ij aP aL z2 B2 nH cN bZ B3 B4 z4 D4 D4m nI o0 o1 o2 o3 ff iV QG cO dY;have oQ:∃L,zw ((dA d 0).length=L):=⟨_,rfl⟩;obtain⟨L0,oQ⟩:=oQ;have jQ:∃L,zw ((dA d 1).length=L):=⟨_,rfl⟩;obtain⟨L1,jQ⟩:=jQ;have jD:∃L,zw ((dA d 2).length=L):=⟨_,rfl⟩;obtain⟨L2,jD⟩:=jD;have lF:∃L,zw ((dA d 3).length=L):=⟨_,rfl⟩;obtain⟨L3,lF⟩:=lF;rw[oQ.out,jQ.out,jD.out,lF.out]at y5 jh gL ⊢;have Hy5:=ah y5;have Hz5:=ah z5;have HX:zw (∀W,zx W5.heap.size W5 W->W.heap[w1.heap.size]?=za (zp #[.slice a0 n0 c0,zi .i64 d.width,.slice a1 n1 c1,.slice a2 n2 c2,.slice a3 n3 c3] 25 (0,0))/\W.heap[w4.heap.size]?=za (zp #[.slice p0 L0 f0,zi .i64 (km d),.slice p1 L1 f1,.slice p2 L2 f2,.slice p3 L3 f3] 25 (0,0))):=λW hb=>⟨aY Hz5.out hb,aY Hy5.out hb⟩
 obtain⟨q0,q1,q2,q3,q4⟩:=bL z5;have Bp:=ah gL;have lQ:=TC (.slice a0 n0 c0) (.slice a1 n1 c1) (.slice a2 n2 c2) (.slice a3 n3 c3) d W5 QF.out;clear y5 z5 gL Hy5 Hz5
 go_upto_region 5 with fail
 rw[Bp.out];clear Bp;generalize w1.heap.size=X1 at *;generalize w4.heap.size=X2 at *
 go_wp2_with fail
 refine lQ.mono ?_;rintro e w6 ⟨rfl,gM⟩;obtain⟨z6,y6⟩:=HX.out w6 gM;clear lQ q0 q1 q2 q3 q4;cases hB:dX d
 ·have e0:L0=0:=by rw[<-oQ.out];unfold dA;rw[hB];rfl
  have e2:L2=0:=by rw[<-jD.out];unfold dA;rw[hB];rfl
  subst e0 e2;obtain⟨r0,r1,r2,r3,r4⟩:=bL y6;have rW:=ah (bi GM.out GM.out.size gM);clear z6 y6 HX gM;go_wp2;go_ret;exact⟨rfl,rW.out⟩
 ·obtain⟨hE,E5⟩:=zo6 (Md hB);have hfd:=Md hB;rw[<-E5]at jh;have wK:km d=(minD d (rG d)).width:=by rw[E5]
  rw[wK]at HX y6 ⊢;generalize rG d=K at *;have HE:=ah hE;obtain⟨r0,r1,r2,r3,r4⟩:=bL y6;have Lw:=TC (.slice p0 L0 f0) (.slice p1 L1 f1) (.slice p2 L2 f2) (.slice p3 L3 f3) (minD d K) w6 (jh.out.below gM);rw[hE.C5]at Lw;have Q9:=ah hfd;clear z6 y6 E5 wK hB hfd
  go_wp2_with fail
  refine Lw.mono ?_;rintro e w7 ⟨rfl,iC⟩;have iC:=bi gM gM.size iC;obtain⟨z7,y7⟩:=HX.out w7 iC;clear r0 r1 r2 r3 r4 Lw gM;obtain⟨r0,r1,r2,r3,r4⟩:=bL y7;have Dh:=zk9 (.slice p0 L0 f0) (.slice p1 L1 f1) (.slice p2 L2 f2) (.slice p3 L3 f3) (minD d K) w7 (jh.out.below iC) hE.wq (λi j hi hj ha=>by rw[hE.zvA]at hi hj;exact hE.alike hi hj ha);clear z7 y7 hE
  go_wp2_with fail
  refine Dh.mono ?_;rintro e w8 ⟨rfl,fU⟩;have QX:=ah (bi iC iC.size fU);clear Dh iC fU r0 r1 r2 r3 r4;obtain⟨cb,co,nb,no,tb,qI,eb,eo,rfl,rfl,rfl,rfl,rfl,rfl,hR⟩:=zrV QF.out Q9.out (λW hb=>(HX.out W hb).1);obtain⟨WN,Ry,ZW,ZY,tb',to',WS,WT,rfl,rfl,rfl,rfl,rfl,rfl,hR'⟩:=zrV jh.out HE.out.wq (λW hb=>(HX.out W hb).2);have HR:=ah hR;have Vq:=ah hR';clear hR hR' oQ jQ jD lF;obtain⟨G,hG⟩:∃G,w8.heap.size=G+1:=⟨w8.heap.size-1,by have:=QX.out.size;have:=GM.out.size;have:=ri;have:=az (HX.out _ (Below.refl _ _)).2;omega⟩;have hI:=aS.zBh hG;have S7:W5.heap.size<=G+1:=by rw[<-hG];exact QX.out.size
  have XA:aS G 2 ((w8.alloc (zp #[zi .i64 0] 3)).alloc (zp #[zi .i64 0] 3)) (vXY (G+1) 1 (G+2) 1 1 1) (xyL d K [0]):=hI.congr (λi hi=>by
   match i,hi with
   |0,_=>rfl
   |1,_=>rfl) (λi hi=>by
   match i,hi with
   |0,_=>rfl
   |1,_=>show [0]=qF ([0].map (gU d K));simp[qF,HE.out.zym])
  have HI:=ah XA;have HBI:=ah (QX.out.trans ((((Below.refl _ w8).alloc (ax _) (zp #[zi .i64 0] 3)).alloc (by simp) (zp #[zi .i64 0] 3)).mono QX.out.size));have HXW:=ah (qq.start HE.out);have HG:=ah hG;have oD:d.tag.length<=4000:=by have:=Q9.out.n2;omega
  have hK:K<=4000:=cM HE.out.le oD;have HP0:zw (CU d K G W5 0 0 [0] w8.heap.size 1 (w8.heap.size+1) 1 ((w8.alloc (zp #[zi .i64 0] 3)).alloc (zp #[zi .i64 0] 3))):=⟨HXW.out,by rw[hG];exact XA,HBI.out,by simp;omega⟩;have E8:=HE.out.zvA;have MY:=ah E8;have Bm:∃nd,zw (d.tag.length=nd):=⟨_,rfl⟩;obtain⟨nd,Bm⟩:=Bm;have zCV:nd<=4000:=by rw[<-Bm.out];exact oD
  clear hI XA hG HI HBI HXW E8;go_wp2
  go_loopw [7,8,9] (λxv yv i wr=>∃(k:Nat) (xs:List Nat) (g0 k0 g1 k1:Nat),i=zi .i64 k/\xv=zn (za ⟨g0,0,zh⟩) xs.length k0/\yv=zn (za ⟨g1,0,zh⟩) xs.length k1/\k<=xs.length/\CU d K G W5 k 0 xs g0 k0 g1 k1 wr) (λ_ _ i _=>nd-(intOf i).toNat)
  case atStart=>exact⟨0,[0],_,_,_,_,rfl,rfl,rfl,by simp,HP0.out⟩
  case round=>
   clear HP0;obtain⟨k,xs,g0,k0,g1,k1,rfl,rfl,rfl,hk,hP⟩:=hrel;have HP:=ah hP;have FR:xs.length<=nd:=by rw[<-Bm.out];exact hP.xw.len
   clear hP
   by_cases hlt:k<xs.length
   ·have Dt:(k:Int)<(xs.length:Int):=by omega
    have i0:(0:Int)<=(k:Int):=by omega
    obtain⟨cx,cy⟩:=HP.out.cell hlt;have tZ:=D8 hlt;have Fk:=HP.out.xw.lt _ tZ;have Dg:=HP.out.xw.nu _ tZ;have Lb:=HE.out.zBf Dg;have r:=HR.out wr HP.out.vX;have r':=Vq.out wr HP.out.vX;have t1:=r.tag _ Fk;have RU:=r.fin _ Fk;have t2:=r'.tag (gU d K (xs.getD k 0)) (by rw[MY.out];exact Dg);have KD:=r'.fin (gU d K (xs.getD k 0)) (by rw[MY.out];exact Dg);unfold au at Lb;injection Lb with K9 La
    rw[K9]at t2;rw[La]at KD;have s3:=r.s3;have s4:=r.s4;have s3':=r'.s3;have s4':=r'.s4;rw[Bm.out]at s3 s4;rw[MY.out]at s3' s4';have ix1:((xs.getD k 0:Nat):Int)<(nd:Int):=by rw[<-Bm.out];omega
    have ix2:((gU d K (xs.getD k 0):Nat):Int)<(K:Int):=by omega
    generalize d.tag.getD (xs.getD k 0) 0=T at *;generalize d.fin.getD (xs.getD k 0) 0=E at *;have Nd:∃x,zw (xs.getD k 0=x):=⟨_,rfl⟩;obtain⟨x0,Nd⟩:=Nd;have Kd:∃y,zw (gU d K x0=y):=⟨_,rfl⟩;obtain⟨y0,Kd⟩:=Kd;rw[Nd.out]at cx cy t1 RU t2 KD ix1 ix2 Fk Dg;rw[Kd.out]at cy t2 KD ix2 Dg;clear r r' K9 La tZ;go_wp2
    go_quiet (fail)
    have M4:=ah (HP.out.to HP.out.xw (below_drewN (Below.refl _ wr) nq));clear HP cx cy t1 RU t2 KD s3 s4 s3' s4';generalize wr.drewN nq=wr0 at *;go_wp2
    go_loopw [7,8,10] (λxv yv i wr=>∃(ch:Nat) (xs:List Nat) (g0 k0 g1 k1:Nat),i=zi .i64 ch/\xv=zn (za ⟨g0,0,zh⟩) xs.length k0/\yv=zn (za ⟨g1,0,zh⟩) xs.length k1/\(k<xs.length/\xs.getD k 0=x0/\ch<=256)/\CU d K G W5 k ch xs g0 k0 g1 k1 wr) (λ_ _ i _=>256-(intOf i).toNat)
    case atStart=>exact⟨0,xs,_,_,_,_,rfl,rfl,rfl,⟨hlt,Nd.out,by omega⟩,M4.out⟩
    case round=>
     clear M4 Nd FR;obtain⟨ch,ys,g2,k2,g3,k3,rfl,rfl,rfl,⟨cY,gz,hch⟩,hP⟩:=hrel;have HP:=ah hP;have wO:ys.length<=nd:=by rw[<-Bm.out];exact hP.xw.len
     have Ha:=ah gz;clear hP gz
     by_cases ve:ch<256
     ·have zAB:(ch:Int)<256:=by omega
      have j0:(0:Int)<=(ch:Int):=by omega
      have FC:(k:Int)<(ys.length:Int):=by omega
      obtain⟨cx,cy⟩:=HP.out.cell cY;rw[Ha.out]at cx cy;rw[Kd.out]at cy;have r:=HR.out wr HP.out.vX;have r':=Vq.out wr HP.out.vX;have nK:=(Q9.out.sf ve).2;have dN:=(HE.out.wq.sf ve).2;have Zt:=HE.out.zyl (x:=x0) (c:=ch) (by rw[Kd.out];exact Dg) ve;rw[Kd.out]at Zt;have ZU:=r.nxt x0 (eH d ch) Fk nK;have ZV:=r'.nxt y0 (eH (minD d K) ch) (by rw[MY.out];exact Dg) dN;have qD:=Q9.out.wd;have kJ:=HE.out.wq.wd;obtain⟨P1,u1,u2,u3,u4,u5,u6⟩:=Jx (s:=x0) (wd:=aW d) (c:=eH d ch) (by omega) qD.2.2 ZU.2;obtain⟨P2,v1,v2,v3,v4,v5,v6⟩:=Jx (s:=y0) (wd:=aW (minD d K)) (c:=eH (minD d K) ch) (by omega) kJ.2.2 ZV.2;have pY:eH d ch<256:=by omega
      have im:eH (minD d K) ch<256:=by omega
      have N1:=ZU.1;have N2:=ZV.1;rw[<-u6]at N1;rw[<-v6]at N2;have s0:=r.s0;have s1:=r.s1;have s2:=r.s2;have z0:=r'.s0;have z1:=r'.s1;have z2:=r'.s2;rw[r.ZT]at s0;rw[r'.ZT]at z0;have C1:=r.cls ch ve;have C2:=r'.cls ch ve;have zP:∃x,zw (ai d x0 ch=x):=⟨_,rfl⟩;obtain⟨x1,zP⟩:=zP;have Nf:∃x,zw (gU d K x1=x):=⟨_,rfl⟩;obtain⟨y1,Nf⟩:=Nf;rw[show bU d x0 (eH d ch)=x1 from zP.out]at N1;rw[show bU (minD d K) y0 (eH (minD d K) ch)=y1 by rw[<-Nf.out,<-zP.out];exact Zt.1.symm]at N2;generalize eH d ch=q1 at *;generalize eH (minD d K) ch=q2 at *;generalize aW d=wd1 at *;generalize aW (minD d K)=wd2 at *;clear r r' Zt ZU ZV u6 v6 qD kJ nK dN;go_wp2
      go_quiet (fail)
      have nA:=ah (HP.out.to HP.out.xw (below_drewN (Below.refl _ wr) nq));have Iz:∀a,(wr.drewN nq).cell? a=wr.cell? a:=λa=>rfl
      have z0':=(Iz _).trans z0;have z1':=(Iz _).trans z1;have z2':=(Iz _).trans z2;have C2':=(Iz _).trans C2;have N2':=(Iz _).trans N2;have cy':=(Iz _).trans cy;clear HP cx cy N1 N2 s0 s1 s2 z0 z1 z2 C1 C2 Iz;generalize wr.drewN nq=wr1 at *;go_wp2
      go_quiet (fail)
      have vN:=ah (nA.out.to nA.out.xw (below_drewN (Below.refl _ wr1) nq));clear nA z0' z1' z2' C2' N2' cy';generalize wr1.drewN nq=Wj at *;go_wp2
      go_loopw [13,140] (λkn i wr=>∃(j:Nat) (b:Bool),j<=ys.length/\i=zi .i64 j/\kn=.bool b/\(b=true↔∃q,q<j/\ys.getD q 0=x1)/\wr=Wj) (λ_ i _=>ys.length-(intOf i).toNat)
      case atStart=>exact⟨0,false,bH _,rfl,rfl,⟨λh=>(by cases h),λ⟨q,h,_⟩=>absurd h (dP _)⟩,rfl⟩
      case round=>
       obtain⟨j,b,hj,rfl,rfl,hb,rfl⟩:=hrel;have Hb:=ah hb;clear hb
       by_cases lM:j<ys.length
       ·have zxv:(j:Int)<(ys.length:Int):=by omega
        obtain⟨cx,cy⟩:=vN.out.cell lM
        by_cases hq:ys.getD j 0=x1
        ·rw[hq]at cx cy;rw[Nf.out]at cy;have GV:zw ((true:Bool)=true↔∃q,q<j+1/\ys.getD q 0=x1):=⟨λ_=>⟨j,by omega,hq⟩,λ_=>rfl⟩;clear hq;go_wp2
         go_roundw
         case rel=>exact⟨j+1,true,by omega,by go_num,rfl,GV.out,by first|rfl|trivial⟩
         case measure=>simp[intOf];omega
        ·have hne:(((ys.getD j 0:Nat):Int)==(x1:Int))=false:=beq_false_of_ne (λe=>hq (Int.ofNat_inj.1 e));have GV:zw (b=true↔∃q,q<j+1/\ys.getD q 0=x1):=⟨λh=>by obtain⟨q,h1,h2⟩:=Hb.out.1 h;exact⟨q,by omega,h2⟩,λ⟨q,h1,h2⟩=>Hb.out.2 ⟨q,by
          have:q≠j:=λe=>hq (by rw[<-e];exact h2)
          omega,h2⟩⟩
         generalize ys.getD j 0=xj at *;clear hq;go_wp2
         go_roundw
         case rel=>exact⟨j+1,b,by omega,by go_num,rfl,GV.out,by first|rfl|trivial⟩
         case measure=>simp[intOf];omega
       ·have zw9:¬(j:Int)<(ys.length:Int):=by omega
        have tZ:b=true↔x1∈ys:=by
         rw[Hb.out];constructor
         ·rintro ⟨q,h1,h2⟩;rw[<-h2];exact D8 (by omega)
         ·intro h;obtain⟨q,h1,h2⟩:=tu.1 h;exact⟨q,by omega,by rw[bI,bE h1];exact h2⟩
        have hst:ai d (ys.getD k 0) ch=x1:=by rw[Ha.out];exact zP.out
        cases b
        ·have pU:x1∉ys:=λh=>by have:=tZ.2 h;cases this
         have QU:=ah (vN.out.xw.add HE.out cY ve (by rw[hst];exact pU));rw[hst]at QU;have S9:=vN.out.low;clear tZ hst pU Hb
         go_upto_region 32 with (at_builtin;refine jw vN.out.aq _ rfl rfl (.tmp 158) (.tmp 160) rfl 0 (by omega) (qF ys) rfl ys.length (zlO _) rfl (x1:Int) rfl (by omega) S9.2 ?_;intro gA cA WA NQ YA)
         have hsA:G+1<=WA.heap.size:=cM S9.2 YA.size;have hBA:zx W5.heap.size W5 WA:=vN.out.vX.grown YA vN.out.vX.size (λb hb=>by have:=(eN (vN.out.aq.own 0 (by omega)) hb).1;omega);have HFA:=ah NQ;have HBA:=ah hBA;clear NQ YA hBA
         go_wp2_with (at_builtin;refine jw HFA.out _ rfl rfl (.tmp 162) (.tmp 164) rfl 1 (by omega) (qF (ys.map (gU d K))) rfl ys.length (by rw[zlO,jK]) rfl (y1:Int) rfl (by omega) hsA ?_;intro gB cB WB hFB YB)
         have uI:zw (CU d K G W5 k (ch+1) (ys++[x1]) gA cA gB cB WB):=by
          refine⟨QU.out,hFB.congr (λi hi=>?_) (λi hi=>?_),HBA.out.grown YB HBA.out.size (λb hb=>by have:=(eN (HFA.out.own 1 (by omega)) hb).1;omega),⟨S9.1,cM hsA YB.size⟩⟩
          ·rw[show (ys++[x1]).length=ys.length+1 by simp]
           match i,hi with
           |0,_=>rfl
           |1,_=>rfl
          ·match i,hi with
           |0,_=>show qF ys++[(x1:Int)]=qF (ys++[x1]);simp[qF]
           |1,_=>show qF (ys.map (gU d K))++[(y1:Int)]=qF ((ys++[x1]).map (gU d K));rw[<-Nf.out];simp[qF]
         clear hFB YB
         go_roundw
         case rel=>exact⟨ch+1,ys++[x1],gA,cA,gB,cB,by go_num,by simp,by simp,⟨by simp;omega,by rw[vv cY];exact Ha.out,by omega⟩,uI.out⟩
         case measure=>simp[intOf];omega
        ·have QU:=ah (vN.out.xw.old (by rw[hst];exact tZ.1 rfl));have uI:=ah (vN.out.to QU.out (Below.refl _ _));clear tZ hst Hb;go_wp2
         go_roundw
         case rel=>exact⟨ch+1,ys,_,_,_,_,by go_num,rfl,rfl,⟨cY,Ha.out,by omega⟩,uI.out⟩
         case measure=>simp[intOf];omega
     ·have Oj:ch=256:=by omega
      have eK:¬(ch:Int)<256:=by omega
      rw[Oj]at HP;have uI:=ah (HP.out.to HP.out.xw.next (Below.refl _ _));clear hch ve Oj HP;go_wp2
      go_roundw
      case rel=>exact⟨k+1,ys,_,_,_,_,by go_num,rfl,rfl,by omega,uI.out⟩
      case measure=>simp[intOf];omega
   ·have wF:k=xs.length:=by omega
    have eK:¬(k:Int)<(xs.length:Int):=by omega
    rw[wF]at HP;have zy5:=ah λq (hq:q<K)=>HP.out.xw.met HE.out hq
    have HPe:=ah HP.out;obtain⟨We,uY⟩:∃We,We=wr:=⟨_,rfl⟩;subst uY;have r':=Vq.out We HP.out.vX;have s0:=r'.s0;have s1:=r'.s1;have s3:=r'.s3;have zw0:=r'.cls;rw[MY.out]at s3;rw[r'.ZT]at s0;have HC:=ah zw0;have wK:=HE.out.wq.wd;have zx8:=zo4 d K;have Hwm:=ah zx8;have hWd:∃wm,zw (aW (minD d K)=wm):=⟨_,rfl⟩;obtain⟨wm,HWm⟩:=hWd;rw[HWm.out]at s1 wK;have zDa:wm<=256:=wK.2.2;clear r' zw0 wF HP wK zx8;go_wp2
    go_loopw [169] (λi wr=>∃q:Nat,q<=K/\i=zi .i64 q/\wr=We) (λi _=>K-(intOf i).toNat)
    case atStart=>exact⟨0,bH _,rfl,rfl⟩
    case round=>
     obtain⟨q,hq,rfl,rfl⟩:=hrel;obtain⟨We,uY⟩:∃We,We=wr:=⟨_,rfl⟩;subst uY
     by_cases hlq:q<K
     ·have zCH:(q:Int)<(K:Int):=by omega
      go_wp2
      go_loopw [16,174] (λmv i wr=>∃(j:Nat) (b:Bool),j<=xs.length/\i=zi .i64 j/\mv=.bool b/\(b=true↔∃z,z<j/\gU d K (xs.getD z 0)=q)/\wr=We) (λ_ i _=>xs.length-(intOf i).toNat)
      case atStart=>exact⟨0,false,bH _,rfl,rfl,⟨λh=>(by cases h),λ⟨q,h,_⟩=>absurd h (dP _)⟩,rfl⟩
      case round=>
       obtain⟨j,b,hj,rfl,rfl,hb,rfl⟩:=hrel;have Hb:=ah hb;clear hb
       by_cases lM:j<xs.length
       ·have zxv:(j:Int)<(xs.length:Int):=by omega
        obtain⟨-,cy⟩:=HPe.out.cell lM;have Yk:∃b2:Bool,(((gU d K (xs.getD j 0):Nat):Int)==(q:Int))=b2:=⟨_,rfl⟩;obtain⟨b2,aL⟩:=Yk;have GV:zw ((b || b2)=true↔∃z,z<j+1/\gU d K (xs.getD z 0)=q):=by
         have e2:b2=true↔gU d K (xs.getD j 0)=q:=by rw[<-aL];simp;omega
         rw[np,Hb.out,e2];constructor
         ·rintro (⟨z,h1,h2⟩|h)
          ·exact⟨z,by omega,h2⟩
          ·exact⟨j,by omega,h⟩
         ·rintro ⟨z,h1,h2⟩
          by_cases e:z=j
          ·subst e;exact .inr h2
          ·exact .inl ⟨z,by omega,h2⟩
        generalize gU d K (xs.getD j 0)=yj at *;cases b
        all_goals
         go_wp2
         go_roundw
         case rel=>exact⟨j+1,_,by omega,by go_num,rfl,GV.out,by first|rfl|trivial⟩
         case measure=>simp[intOf];omega
       ·have zw9:¬(j:Int)<(xs.length:Int):=by omega
        have ri:b=true:=Hb.out.2 (by obtain⟨z,h1,h2⟩:=zy5.out q hlq;exact⟨z,by omega,h2⟩);subst ri;clear Hb;go_wp2
        go_roundw
        case rel=>exact⟨q+1,by omega,by go_num,by first|rfl|trivial⟩
        case measure=>simp[intOf];omega
     ·have zCk:¬(q:Int)<(K:Int):=by omega
      go_wp2
      go_loopw [19] (λi wr=>∃q:Nat,q<=wm/\i=zi .i64 q/\wr=We) (λi _=>wm-(intOf i).toNat)
      case atStart=>exact⟨0,bH _,rfl,rfl⟩
      case round=>
       obtain⟨cc,hcc,rfl,rfl⟩:=hrel;obtain⟨We,uY⟩:∃We,We=wr:=⟨_,rfl⟩;subst uY
       by_cases ve:cc<wm
       ·have zAB:(cc:Int)<(wm:Int):=by omega
        have Hcm:=ah (zsf (d:=d) (K:=K) (c:=cc) (by rw[<-Hwm.out,HWm.out];exact ve));go_wp2
        go_loopw [20,21] (λmv i wr=>∃(j:Nat) (b:Bool),j<=256/\i=zi .i64 j/\mv=.bool b/\(b=true↔∃z,z<j/\eH (minD d K) z=cc)/\wr=We) (λ_ i _=>256-(intOf i).toNat)
        case atStart=>exact⟨0,false,bH _,rfl,rfl,⟨λh=>(by cases h),λ⟨q,h,_⟩=>absurd h (dP _)⟩,rfl⟩
        case round=>
         obtain⟨j,b,hj,rfl,rfl,hb,rfl⟩:=hrel;have Hb:=ah hb;clear hb
         by_cases lM:j<256
         ·have zxv:(j:Int)<256:=by omega
          have i9:(0:Int)<=(j:Int):=by omega
          have cy:=HC.out j lM;have Yk:∃b2:Bool,(((eH (minD d K) j:Nat):Int)==(cc:Int))=b2:=⟨_,rfl⟩;obtain⟨b2,aL⟩:=Yk;have GV:zw ((b || b2)=true↔∃z,z<j+1/\eH (minD d K) z=cc):=by
           have e2:b2=true↔eH (minD d K) j=cc:=by rw[<-aL];simp;omega
           rw[np,Hb.out,e2];constructor
           ·rintro (⟨z,h1,h2⟩|h)
            ·exact⟨z,by omega,h2⟩
            ·exact⟨j,by omega,h⟩
           ·rintro ⟨z,h1,h2⟩
            by_cases e:z=j
            ·subst e;exact .inr h2
            ·exact .inl ⟨z,by omega,h2⟩
          generalize eH (minD d K) j=yj at *;cases b
          all_goals
           go_wp2
           go_roundw
           case rel=>exact⟨j+1,_,by omega,by go_num,rfl,GV.out,by first|rfl|trivial⟩
           case measure=>simp[intOf];omega
         ·have zw9:¬(j:Int)<256:=by omega
          have ri:b=true:=Hb.out.2 (by
           obtain⟨z,h1,h2⟩:=Hcm.out;refine⟨z,by omega,?_⟩;unfold eH;rw[h2];omega)
          subst ri;clear Hb;go_wp2
          go_roundw
          case rel=>exact⟨cc+1,by omega,by go_num,by first|rfl|trivial⟩
          case measure=>simp[intOf];omega
       ·have zAk:¬(cc:Int)<(wm:Int):=by omega
        have QC:=ah HPe.out.vX
        go_upto_region 55 with fail
        have gz:∀s:zC We,s.W.cell? ⟨X2,0,zh⟩=za (zn (za ⟨WN,Ry,zh⟩) L0 f0)/\s.W.cell? ⟨X2,1,zh⟩=za (zi .i64 (minD d K).width)/\s.W.cell? ⟨X2,2,zh⟩=za (zn (za ⟨ZW,ZY,zh⟩) L1 f1)/\s.W.cell? ⟨X2,3,zh⟩=za (zn (za ⟨tb',to',zh⟩) (minD d K).tag.length f2)/\s.W.cell? ⟨X2,4,zh⟩=za (zn (za ⟨WS,WT,zh⟩) (minD d K).tag.length f3):=λs=>bL (HX.out s.W (bi QC.out QC.out.size s.h)).2
        have Hw:=λs=>(gz s).1
        have Ky:=λs=>(gz s).2.1
        have NB:=λs=>(gz s).2.2.1
        have Ru:=λs=>(gz s).2.2.2.1
        have zX:=λs=>(gz s).2.2.2.2
        clear gz s0 s1 s3;refine zhZ [0,2] [1,3,4] 3 (λw'=>∃s:zC We,w'=s.W) du ⟨⟨We.drew,(Below.refl _ _).drew⟩,rfl⟩ (by kernel_rfl) ?_;intro os aX;simp only[jL,jM,jO,jN]at aX;subst aX
        change wpQuiet _ _ _ _ [_,_] _
        repeat (go_big_quiet_step (fail))
        refine wpQuiet_nil ?_;rintro w' ⟨⟨Wb,kG⟩,hw'⟩ r' di;replace hw':w'=Wb:=hw';subst w';simp only[jL,jM,jO,jN,qS]at di;subst di;clear Hw Ky NB Ru zX;have dh:=bi QC.out QC.out.size kG;refine lV rfl (λK5 bh=>?_);refine xo 5 #[.tmp 210] #[25] (by rfl) #[zD #[zn (za ⟨WN,Ry,zh⟩) L0 f0,zi .i64 (minD d K).width,zn (za ⟨ZW,ZY,zh⟩) L1 f1,zn (za ⟨tb',to',zh⟩) (minD d K).tag.length f2,zn (za ⟨WS,WT,zh⟩) (minD d K).tag.length f3]] (by simp[Act.eval]) _ (zoz _ _) (zlK _ _ _ _ HE.out Wb (jh.out.below dh)) ?_;rintro v8 W8 ⟨u0,u1,u2,u3,rfl,hD8,fU⟩;refine bh _ _ (λ_=>⟨⟨_,bi kG kG.size fU⟩,rfl⟩) ?_;clear bh K5;have Yj:=bi dh dh.size fU;refine lV rfl (λK5 bh=>?_);refine xo 8 #[.tmp 211,.tmp 212] #[25,25] (by rfl) #[zD #[u0,zi .i64 (minD d K).width,u1,u2,u3],zD #[zn (za ⟨WN,Ry,zh⟩) L0 f0,zi .i64 (minD d K).width,zn (za ⟨ZW,ZY,zh⟩) L1 f1,zn (za ⟨tb',to',zh⟩) (minD d K).tag.length f2,zn (za ⟨WS,WT,zh⟩) (minD d K).tag.length f3]] (by simp[Act.eval,Act.put]) (λv w'=>v=.bool true/\zx W8.heap.size W8 w') (znt _ _) ((znW u0 u1 u2 u3 _ _ _ _ (minD d K) W8 hD8 (jh.out.below Yj) (zkm HE.out)).mono (by
         rintro e w1 ⟨rfl,h1⟩;exact⟨_,rfl,rfl,h1⟩)) ?_
        rintro v9 W9 ⟨rfl,Dj⟩;have QB:=ah (bi GM.out GM.out.size (bi Yj Yj.size Dj));refine bh _ _ (λh=>by simp at h) ?_;clear bh K5;refine um (by simp) (λ_ _ h=>h) ?_
        change wpList _ _ _ [_] _ _
        simp only[Act.put,zv,zz,zt];go_wp2;rw[oJ];go_wp2;go_ret;exact⟨rfl,QB.out⟩
end
section
open Go.RowKit Go.ChangeShapes Go.WideShapes Go.ChangeAt
theorem Try.zzA:prog.cellsOf 5=1:=by kernel_rfl
section
variable {H:Type} {enc:TypeId×zB->H} {W:zy} {spare:Nat->Bool} {held:Bool}
theorem zlQ{fuel:Nat}{c:zB}{x:DataW H×List MemPlace}(h:DataW.trod enc prog W 0 spare held fuel 22 [c]=za x):∃(ao:Option Addr) (xs:List UInt8) (cap:Nat),c=.slice ao xs.length cap/\xs.length<=9223372036854775807/\JF W ao xs:=by
 rcases Go.Deep.open_slice underlying22 h with ⟨hc,_⟩|⟨a,len,cap,m,n,D,Pl,hc,_,ve,Lf,IQ,_,hx⟩
 ·simp only[List.cons.injEq,and_true]at hc;exact⟨zh,[],0,hc,by simp,λh0=>absurd h0 (dP _)⟩
 ·simp only[List.cons.injEq,and_true]at hc;have FD:len<=m:=by rw[IQ];split<;>omega
  rw[Try.zzA]at hx;rcases JS len with h0|h0
  ·subst h0;exact⟨za a,[],cap,hc,by simp,λh0=>absurd h0 (dP _)⟩
  ·obtain⟨b,o,C,rfl,hb,hC⟩:=zpe (W:=W) (a:=a) (len:=len) (sz:=1) (E:=λcs=>∃r:UInt8,cs=[.int .u8 (r.toNat:Int)]) (by omega) (λi hi=>by
    obtain⟨uT,h1,h2⟩:=hx i (by omega);obtain⟨k,he,_,hw⟩:=DataW.trod_int underlying5 h2;have hk:0<=k/\k<=255:=by simp[Lit.wf,IntKind.min,IntKind.max,IntKind.signed,IntKind.bits]at hw;omega
    refine⟨uT,h1,UInt8.ofNat k.toNat,?_⟩;rw[he];have:(UInt8.ofNat k.toNat).toNat=k.toNat:=by simp;omega
    rw[this];simp;omega) h0
   obtain⟨F,hF⟩:=Go.Deep.choose_lt (α:=UInt8) (p:=λi r=>C i=[.int .u8 (r.toNat:Int)]) (λi hi=>(hC i hi).1);refine⟨za ⟨b,o,zh⟩,(List.range len).map F,cap,by rw[hc];simp,by simp;exact Jr (cM ve Lf),λ_=>⟨b,o,rfl,hb,λi hi=>?_⟩⟩;have qy:i<len:=by simpa using hi
   rw[zjn F 0 len i qy];have q0:=(hC i qy).2 0 (by omega);rw[hF i qy]at q0
   simpa using q0
theorem zhf{r:Reach}{b0:Nat}{v:zB}{d:DataW H}{p:List MemPlace}(hv:Value.okWide prog W r b0 22 v)(h:DataW.Trod enc prog W 0 spare held 22 v d p):∃(ao:Option Addr) (xs:List UInt8) (cap:Nat),v=.slice ao xs.length cap/\xs.length<=9223372036854775807/\JF W ao xs:=by
 obtain⟨a,l,c,rfl⟩:=okWide_slice underlying22 hv;obtain⟨fuel,hf⟩:=h;exact zlQ hf
end
end
open Go.ChangeShapes Go.WideShapes Go.ChangeAt Go.RowKit Go.Joins
theorem Try.own:ownKnob prog.godebug=zh:=by kernel_rfl
theorem Try.laidOut:laidOutB prog=true:=by kernel_rfl
theorem zf3(os:Os)(started:os.Started)(H:Type)(enc:TypeId×zB->H):
  ReturnsInHanded {} checked os 3 .any (Rows.fnMinimalSpec.pre6 enc prog Try.f3 Rows.fnMinimalRow.domain false) (Rows.fnMinimalSpec.post enc prog Try.f3 false true false false):=by
 refine returnsInHanded_of_change (C:=checked) Try.own started (by kernel_rfl) func3
  (ChangeSpec.witness6 (enc:=enc) (C:=checked) false ⟨#[],#[zn zh 0 0,zn zh 0 0],[]⟩ 8 (by kernel_rfl) (by kernel_rfl) (by kernel_rfl) (by kernel_rfl)) ?_
 intro W base args ds gs before zx6 hW hcnd _;have hval:∀(j:Nat) t v,Try.f3.params[j]?=za t->args[j]?=za v->Value.okWide prog W .any base t v:=zx6;have hW':=hW;obtain⟨p,q,hA0,hV,rfl,hfz,oD⟩:=hW;have hA:DataW.TrodAll enc prog W 0 (λ_=>true) true Try.f3.params.toList args.toList ds p:=hA0;rw[params3]at hA hval;obtain⟨v0,vs0,d0,ds0,p0,q0,Lc,rfl,rfl,h0,r0⟩:=trodAll_cons hA;obtain⟨v1,vs1,d1,ds1,p1,q1,zB7,rfl,rfl,h1,r1⟩:=trodAll_cons r0;obtain⟨rfl,rfl,rfl⟩:=trodAll_nil r1;obtain rfl:args=#[v0,v1]:=by cases args;simp_all
 obtain⟨rfl,rfl⟩:=trodVars_none hV;have k0:=h0;have k1:=h1;have lt0:∀x∈p0,x.block<W.heap.size:=by obtain⟨m,hm⟩:=k0;exact DataW.trod_lt m _ _ _ hm
 have lt1:∀x∈p1,x.block<W.heap.size:=by obtain⟨m,hm⟩:=k1;exact DataW.trod_lt m _ _ _ hm
 obtain⟨ao,xs,cap,rfl,hl,hC⟩:=zhf (hval 0 22 v0 rfl rfl) h0;obtain⟨mo,ms,ZR,rfl,dT,_⟩:=zhf (hval 1 22 v1 rfl rfl) h1;clear hA0 zx6;refine(zjd W ao mo xs ms.length cap ZR hC hl dT).mono λe W' ⟨he,vX⟩=>?_
 subst he;exact⟨_,rfl,_,_,_,[],_,[],hW',trodAll_mk1 (shut_bool underlying4 _),(trodAll_cons_mk (Below.trod Try.laidOut (by kernel_rfl) (of_decide_eq_true (by kernel_rfl)) k0 vX lt0) (trodAll_cons_mk (Below.trod Try.laidOut (by kernel_rfl) (of_decide_eq_true (by kernel_rfl)) k1 vX lt1) trodAll_mk0)),rfl,vX.frame _,λh=>by cases h⟩
theorem fnMinimal_holds:Rows.FnMinimalSaid:=
 OpenClaim.holds_of_wide 3 Try.f3 rfl rfl rfl rfl rfl rfl rfl ⟨rfl,rfl,rfl,rfl,rfl⟩ rfl rfl rfl rfl rfl (by kernel_rfl) func3 (by kernel_rfl)
  (of_decide_eq_true (by kernel_rfl)) (by unfold Func.isWrapper;first|(rw[ae (by decide +kernel)];kernel_rfl)|(rw[ab (by decide +kernel)];exact⟨rfl,rfl⟩))
  (λos started H enc _=>zf3 os started H enc)
#print axioms fnMinimal_holds
end Go.Proofs.Ytfajjdgkiilhfaa
