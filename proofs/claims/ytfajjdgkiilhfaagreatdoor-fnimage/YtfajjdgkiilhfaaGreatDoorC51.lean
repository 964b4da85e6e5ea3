import Derived.Test.YtfajjdgkiilhfaaGreatDoorC48
import Derived.Test.YtfajjdgkiilhfaaGreatDoorC50
import Derived.ProofKit
import Derived.Deep.Slices
import Derived.Deep.Strs
import Derived.Lib.SmallJoins
import Derived.Test.YtfajjdgkiilhfaaGreatDoorRows
import Derived.Test.YtfajjdgkiilhfaaGreatDoorCards
import Derived.Test.YtfajjdgkiilhfaaGreatDoorTie
import Derived.ChangeSame
import Derived.ChangeVars
import Derived.JoinedOf
import Derived.RowKitTokens
import Derived.LaidLaws
import Derived.LaidHandle
import Derived.Lib.LaidTab
import Derived.SevenTiedAt
namespace Go.Proofs.YtfajjdgkiilhfaaGreatDoor
open Proofs.Tryz
open Option renaming some->za,none->zb
open Value renaming int->zc,slice->zi
open RowKit renaming Below->zd,Hid->zf
open Obj renaming cells->ze
open Go renaming World->zg,Value->zh,TypeId->zj
set_option maxHeartbeats 8000000
set_option maxRecDepth 100000
open Go.RowKit
attribute [local go_sem ↓] wp_at_zero wp_at_succ
section
variable {lo:Nat}
theorem zts(cv bv fv tv ev nv kv:zh)(d:cg)(s c:Nat)(w:zg)(hs:qi lo w cv bv fv tv ev nv kv d)(hf:O3 d)(pj:s<d.base.length)(hc:c<256):
  Calls prog 38 #[.agg #[cv,zc .i64 d.width,bv,fv,tv,ev,nv,kv],zc .i64 s,zc .i64 c] w λe w'=>e=.returned (zc .i64 (Fy d s c))/\zd w.heap.size w w':=by
 obtain⟨⟨a0,p0,rfl,m0,y0⟩,⟨a1,p1,rfl,m1,y1⟩,⟨a2,p2,rfl,m2,y2⟩,⟨a3,p3,rfl,m3,y3⟩,⟨a4,p4,rfl,m4,y4⟩,⟨a5,p5,rfl,m5,y5⟩,⟨a6,p6,rfl,m6,y6⟩⟩:=hs;have aV:=hf.cl;have j7:=hf.n1;have kA:=hf.n2;have hdl:=hf.dl;have Yd:=hf.nk;have pi:=hf.nm;obtain⟨x0,x1,z0,z1,qF⟩:=hf.bd pj hc;obtain⟨cb,co,rfl,_,cl,cq⟩:=y0 (by omega);obtain⟨bb,bo,rfl,_,bl,bq⟩:=y1 (by omega);obtain⟨fb,fo,rfl,_,fl,fq⟩:=y2 (by omega);have c0:w.cell? ⟨cb,co+c,zb⟩=za (zc .i64 (rL d c)):=cq c (by omega);have b0:w.cell? ⟨bb,bo+s,zb⟩=za (zc .i64 (qL d s)):=bq s pj;have f0:w.cell? ⟨fb,fo+s,zb⟩=za (zc .i64 (Ac d s)):=fq s (by omega);have i0:(0:Int)<=(s:Int):=by omega
 have i1:(s:Int)<(d.base.length:Int):=by omega
 have i2:(0:Int)<=(c:Int):=by omega
 have i3:(c:Int)<(d.ai.length:Int):=by omega
 have i4:(s:Int)<(d.bA.length:Int):=by omega
 by_cases h:ug d s c<d.az.length
 case' neg=>
  have H:zf (Fy d s c=Ac d s):=ab (λk=>h k.1);have i5:¬qL d s+rL d c<(d.az.length:Int):=by omega
  clear y5 y6
 case' pos=>
  obtain⟨kb,ko,rfl,_,kl,kq⟩:=y6 (by omega);have k0:w.cell? ⟨kb,ko+(qL d s+rL d c).toNat,zb⟩=za (zc .i64 (Bk d (ug d s c))):=kq (ug d s c) h;have i5:qL d s+rL d c<(d.az.length:Int):=by omega
  by_cases h2:Bk d (ug d s c)=s
  case' pos=>
   obtain⟨nb,no,rfl,_,nl,nq⟩:=y5 (by omega);have n0:w.cell? ⟨nb,no+(qL d s+rL d c).toNat,zb⟩=za (zc .i64 (A8 d (ug d s c))):=nq (ug d s c) (by omega);have i6:qL d s+rL d c<(d.next.length:Int):=by omega
   have H:zf (Fy d s c=A8 d (ug d s c)):=af ⟨h,h2⟩;rw[h2]at k0;clear kq nq h2;generalize A8 d (ug d s c)=q at *
  case' neg=>
   have H:zf (Fy d s c=Ac d s):=ab (λk=>h2 k.2);clear y5 kq;generalize Bk d (ug d s c)=q at *
 all_goals
  clear y3 y4 cq bq fq qF h;generalize qL d s=x at *;generalize rL d c=y at *;generalize Ac d s=z at *
  go_enter func38,ntmps38
  go_wp2
  go_quiet (fail)
  go_wp2;go_ret;exact⟨ew H.out.symm,below_drewN (ax) _⟩
theorem zjR(cv bv fv tv ev nv kv:zh)(d:cg)(s c:Int)(w:zg)(hs:qi lo w cv bv fv tv ev nv kv d)(hsm:C4 d):
  Calls prog 13 #[.agg #[cv,zc .i64 d.width,bv,fv,tv,ev,nv,kv],zc .i64 s,zc .i64 c] w λe w'=>e=.returned (zc .i64 (ui d s c))/\zd w.heap.size w w':=by
 have aD:zd w.heap.size w (w.alloc (ze #[cv,zc .i64 d.width,bv,fv,tv,ev,nv,kv] 28)):=ax;have r0:(w.alloc (ze #[cv,zc .i64 d.width,bv,fv,tv,ev,nv,kv] 28)).heap[w.heap.size]?=za (ze #[cv,zc .i64 d.width,bv,fv,tv,ev,nv,kv] 28 (0,0)):=aJ _ _;have bl:∃ba bc,bv=.slice ba d.base.length bc:=by obtain⟨ba,bc,h,_⟩:=hs.base;exact⟨ba,bc,h⟩
 obtain⟨ba,bc,rfl⟩:=bl
 go_enter func13,ntmps13
 go_wp2_with fail
 refine(On _ _ _ _ _ _ _ d _ (hs.below aD) hsm).mono ?_;rintro e w1 ⟨rfl,aO⟩;have vR:=aH aD aD.size aO;have r1:=aT r0 aO;obtain⟨x0,x1,x2,x3,x4,x5,x6,x7⟩:=kH r1;clear aO;cases hB:mZ d
 case false=>
  have H:zf (ui d s c=-1):=by show _=_;simp[ui,hB]
  go_wp2;go_ret;exact⟨ew H.out.symm,vR⟩
 have hf:=OH hB;have j7:=hf.n1;have kA:=hf.n2
 by_cases h1:s<0
 case pos=>
  have H:zf (ui d s c=-1):=by show _=_;unfold ui;rw[ab];simp[aG];omega
  go_wp2;go_ret;exact⟨ew H.out.symm,vR⟩
 by_cases h2:s<d.base.length
 case neg=>
  have H:zf (ui d s c=-1):=by show _=_;unfold ui;rw[ab];simp[aG];omega
  go_wp2;go_ret;exact⟨ew H.out.symm,vR⟩
 by_cases h3:c<0
 case pos=>
  have H:zf (ui d s c=-1):=by show _=_;unfold ui;rw[ab];simp[aG];omega
  go_wp2;go_ret;exact⟨ew H.out.symm,vR⟩
 by_cases h4:255<c
 case pos=>
  have H:zf (ui d s c=-1):=by show _=_;unfold ui;rw[ab];simp[aG];omega
  go_wp2;go_ret;exact⟨ew H.out.symm,vR⟩
 have hT:aG s 0 (d.base.length-1)=true:=kK.2 (by omega);have hC:aG c 0 255=true:=kK.2 (by omega);have H:zf (ui d s c=Fy d s.toNat c.toNat):=by show _=_;simp[ui,hB,hT,hC]
 clear hT hC;obtain⟨sn,rfl⟩:∃n:Nat,s=n:=⟨s.toNat,by omega⟩;obtain⟨cn,rfl⟩:∃n:Nat,c=n:=⟨c.toNat,by omega⟩
 go_wp2_with fail
 refine(zts _ _ _ _ _ _ _ d sn cn _ (hs.below vR) hf (by omega) (by omega)).mono ?_;rintro e w2 ⟨rfl,aB⟩;go_wp2;go_ret;exact⟨ew (by rw[H.out];simp),aH vR vR.size aB⟩
end
structure RdA(W5:zg)(X:Nat)(d:aL)(cb co nb no tb wD eb eo n0 c0 n1 c1 c2 c3:Nat)(W:zg):Prop where
 s0:W.cell? ⟨X,0,zb⟩=za (zi (za ⟨cb,co,zb⟩) n0 c0)
 s1:W.cell? ⟨X,1,zb⟩=za (zc .i64 (bn d:Int))
 s2:W.cell? ⟨X,2,zb⟩=za (zi (za ⟨nb,no,zb⟩) n1 c1)
 s3:W.cell? ⟨X,3,zb⟩=za (zi (za ⟨tb,wD,zb⟩) d.tag.length c2)
 s4:W.cell? ⟨X,4,zb⟩=za (zi (za ⟨eb,eo,zb⟩) d.tag.length c3)
 cls:∀ch,ch<256->W.cell? ⟨cb,co+ch,zb⟩=za (zc .i64 (kw d ch:Int))
 nxt:∀x c,x<d.tag.length->c<bn d->W.cell? ⟨nb,no+(x*bn d+c),zb⟩=za (zc .i64 (fj d x c:Int))/\x*bn d+c<n1
 tag:∀x,x<d.tag.length->W.cell? ⟨tb,wD+x,zb⟩=za (zc .i64 (d.tag.getD x 0))
 fin:∀x,x<d.tag.length->W.cell? ⟨eb,eo+x,zb⟩=za (zc .i64 (d.fin.getD x 0))
 n0e:n0=256
theorem zvD{W5:zg}{X:Nat}{d:aL}{lo:Nat}{a0 a1 a2 a3:Option Addr}{n0 c0 n1 c1 n2 c2 n3 c3:Nat}(hD:dP lo W5 (.slice a0 n0 c0) (.slice a1 n1 c1) (.slice a2 n2 c2) (.slice a3 n3 c3) d)(hf:eI d)(hx:∀W,zd W5.heap.size W5 W->W.heap[X]?=za (ze #[.slice a0 n0 c0,zc .i64 d.width,.slice a1 n1 c1,.slice a2 n2 c2,.slice a3 n3 c3] 25 (0,0))):
  ∃cb co nb no tb wD eb eo,a0=za ⟨cb,co,zb⟩/\a1=za ⟨nb,no,zb⟩/\a2=za ⟨tb,wD,zb⟩/\a3=za ⟨eb,eo,zb⟩/\n2=d.tag.length/\n3=d.tag.length/\∀W,zd W5.heap.size W5 W->RdA W5 X d cb co nb no tb wD eb eo n0 c0 n1 c1 c2 c3 W:=by
 have j7:=hf.n1;have rq:=hf.fl;have aV:=hf.cl;have hwd:=hf.wd;obtain⟨⟨x0,y0,e0,_,h0⟩,⟨x1,y1,e1,_,h1⟩,⟨x2,y2,e2,_,h2⟩,⟨x3,y3,e3,_,h3⟩⟩:=hD;injection e0 with e00 e01 e02
 injection e1 with e10 e11 e12
 injection e2 with e20 e21 e22
 injection e3 with e30 e31 e32
 obtain⟨cb,co,q0,_,l0,k0⟩:=h0 (by omega);obtain⟨nb,no,q1,_,l1,k1⟩:=h1 (by rw[hf.N9];exact Nat.mul_pos (by omega) (by omega));obtain⟨tb,wD,q2,_,l2,k2⟩:=h2 (by omega);obtain⟨eb,eo,q3,_,l3,k3⟩:=h3 (by omega);refine⟨cb,co,nb,no,tb,wD,eb,eo,e00.trans q0,e10.trans q1,e20.trans q2,e30.trans q3,e21,e31.trans rq,λW hb=>?_⟩;have hr:=dM (hx W hb);rw[e00,e10,e20,e30,q0,q1,q2,q3,e21,e31,rq,hwd.1]at hr;obtain⟨r0,r1,r2,r3,r4⟩:=hr;refine⟨r0,r1,r2,r3,r4,λch hch=>?_,λx c hx hc=>?_,λx hx=>?_,λx hx=>?_,by omega⟩
 ·rw[hb.cell (p:=⟨cb,co+ch,zb⟩) l0,k0 ch (by omega),(hf.yX hch).1]
 ·exact⟨by rw[hb.cell (p:=⟨nb,no+(x*bn d+c),zb⟩) l1,k1 _ (hf.AZ hx hc),(hf.nx hx hc).1],by rw[e11];exact hf.AZ hx hc⟩
 ·rw[hb.cell (p:=⟨tb,wD+x,zb⟩) l2,k2 x hx]
 ·rw[hb.cell (p:=⟨eb,eo+x,zb⟩) l3,k3 x (by omega)]
section
variable {W:zg}{d:aL}{l:Nat -> List Int}{T:cg}
theorem ztx{lo:Nat}{cv nv tv ev:zh}(h:dP lo W cv nv tv ev d)(hc:Bt nv):∃ao cap,nv=.slice ao d.next.length cap/\d.next.length<=cap:=by
 obtain⟨ao,cap,rfl,_,_⟩:=h.next;obtain⟨a,n,c,e,hn⟩:=hc;injection e with e1 e2 e3
 subst e1 e2 e3;exact⟨_,_,rfl,hn⟩
theorem ZR(hsm:zS d):C4 (pz d):=by
 have h:=zpm d hsm;intro xs hx;simp only[cg.lists,pz,jP,pD,yD,or_false]at hx;rcases hx with rfl|rfl|rfl|rfl|rfl|rfl|rfl
 ·exact h 0 (by omega)
 ·exact h 1 (by omega)
 ·exact h 2 (by omega)
 ·exact h 3 (by omega)
 ·exact h 4 (by omega)
 ·exact h 5 (by omega)
 ·exact h 6 (by omega)
theorem zoL(xs:Array zh)(w:zg):(callFunc 13 xs).run prog w=.ok (.enter 13 xs) w:=by kernel_rfl
theorem zt8{gt:Nat}{a:Nat->Option Addr}{p:Nat->Nat}{wd:Int}(h:aI gt 7 W (SK a l p) l)(hT:jP wd l=T)(hs:C4 T):qi 0 W (.slice (a 0) T.ai.length (p 0)) (.slice (a 1) T.base.length (p 1)) (.slice (a 2) T.bA.length (p 2)) (.slice (a 3) T.tag.length (p 3)) (.slice (a 4) T.fin.length (p 4)) (.slice (a 5) T.next.length (p 5)) (.slice (a 6) T.az.length (p 6)) T:=by
 subst hT;have o:∀i,i<7->(l i)∈(jP wd l).lists->dD 0 W (.slice (a i) (l i).length (p i)) (l i):=λi hi hm=>((h.own i hi).at (by have:=hs _ hm;omega)).low (dz _)
 exact⟨o 0 (by omega) (by simp[cg.lists,jP]),o 1 (by omega) (by simp[cg.lists,jP]),o 2 (by omega) (by simp[cg.lists,jP]),o 3 (by omega) (by simp[cg.lists,jP]),o 4 (by omega) (by simp[cg.lists,jP]),o 5 (by omega) (by simp[cg.lists,jP]),o 6 (by omega) (by simp[cg.lists,jP])⟩
theorem zmo{w w':zg}{width code:Int}{e:Ending}(h:yi w width code l e w')(hT:jP width l=T)(hs:C4 T):∃(a0 a1 a2 a3 a4 a5 a6:Option Addr) (p0 p1 p2 p3 p4 p5 p6:Nat),e=.returned (.tuple #[.agg #[.slice a0 T.ai.length p0,zc .i64 T.width,.slice a1 T.base.length p1,.slice a2 T.bA.length p2,.slice a3 T.tag.length p3,.slice a4 T.fin.length p4,.slice a5 T.next.length p5,.slice a6 T.az.length p6],zc .i64 code])/\
  qi 0 w' (.slice a0 T.ai.length p0) (.slice a1 T.base.length p1) (.slice a2 T.bA.length p2) (.slice a3 T.tag.length p3) (.slice a4 T.fin.length p4) (.slice a5 T.next.length p5) (.slice a6 T.az.length p6) T/\zd w.heap.size w w':=by
 obtain⟨a,p,rfl,hF,hb⟩:=h.form;have ht:=zt8 hF hT hs;subst hT;exact⟨a 0,a 1,a 2,a 3,a 4,a 5,a 6,p 0,p 1,p 2,p 3,p 4,p 5,p 6,rfl,ht,hb⟩
theorem Ia{g:Nat}{u0 u1 u2 u3 u4 u5 u6 u7:zh}{t:zj}(h:W.heap[g]?=za (ze #[u0,u1,u2,u3,u4,u5,u6,u7] t (0,0))):W.cell? ⟨g,0,zb⟩=za u0/\W.cell? ⟨g,1,zb⟩=za u1/\W.cell? ⟨g,2,zb⟩=za u2/\W.cell? ⟨g,3,zb⟩=za u3/\W.cell? ⟨g,4,zb⟩=za u4/\W.cell? ⟨g,5,zb⟩=za u5/\W.cell? ⟨g,6,zb⟩=za u6/\W.cell? ⟨g,7,zb⟩=za u7:=
 ⟨cG h 0,cG h 1,cG h 2,cG h 3,cG h 4,cG h 5,cG h 6,cG h 7⟩
theorem zm0(w:zg)(ao mo:Option Addr)(c m:List UInt8)(cap Kr:Nat)(hc:Dh w ao c)(hm:Dh w mo m)(hn:c.length<=9223372036854775807)(nK:m.length<=9223372036854775807)(uF:Dg w)(h0:0<w.heap.size):
  Calls prog 3 #[.slice ao c.length cap,.slice mo m.length Kr] w λe W=>e=.returned (.bool true)/\zd w.heap.size w W:=by
 have fF:prog.follows .mixedOrders=true:=by kernel_rfl
 by_cases J8:1048576<c.length
 ·have h1:(1048576:Int)<(c.length:Int):=by omega
  clear uF
  go_enter func3,ntmps3
  go_wp2;go_ret;exact⟨rfl,Below.refl _ _⟩
 have h1:¬(1048576:Int)<(c.length:Int):=by omega
 by_cases EC:1048576<m.length
 ·have h2:(1048576:Int)<(m.length:Int):=by omega
  clear uF
  go_enter func3,ntmps3
  go_wp2;go_ret;exact⟨rfl,Below.refl _ _⟩
 have h2:¬(1048576:Int)<(m.length:Int):=by omega
 have hsm:=zq7 c;have PG:=ah λW (hb:zd w.heap.size w W)=>zmG W c ao cap (hc.below hb) (by omega)
 have HPk:=ah λW (hb:zd w.heap.size w W) (i:Nat) (hi:i<=1048576)=>zsD W mo m Kr i (hm.below hb) (by omega) hi
 have HBr:zf (∀W:zg,zd w.heap.size w W->zf (Dg W)):=λW hb i hi=>(hb.cell (by exact h0)).trans (uF i hi)
 generalize H5 c=d at *;have uu:=ah hsm;obtain⟨cl,aV⟩:∃cl,c.length=cl:=⟨_,rfl⟩;obtain⟨ml,uM⟩:∃ml,m.length=ml:=⟨_,rfl⟩;rw[aV]at h1 PG ⊢;rw[uM]at h2 HPk ⊢;clear J8 EC hc hn hm nK hsm aV uM uF h0
 go_enter func3,ntmps3
 go_wp2_with fail
 refine(PG.out w (Below.refl _ _)).mono ?_;rintro e w1 ⟨cv,nv,tv,ev,rfl,Jv,xP,aO⟩;obtain⟨a0,n0,c0,a1,n1,c1,a2,n2,c2,a3,n3,c3,e0,e1,e2,e3⟩:=Jv.form;rw[e0,e1,e2,e3]at Jv ⊢;rw[e1]at xP;clear e0 e1 e2 e3;obtain⟨W2,fe⟩:∃W2,w1.alloc (ze #[.slice a0 n0 c0,zc .i64 d.width,.slice a1 n1 c1,.slice a2 n2 c2,.slice a3 n3 c3] 25)=W2:=⟨_,rfl⟩;have aB:zd w1.heap.size w1 W2:=by rw[<-fe];exact ax
 have z2:W2.heap[w1.heap.size]?=za (ze #[.slice a0 n0 c0,zc .i64 d.width,.slice a1 n1 c1,.slice a2 n2 c2,.slice a3 n3 c3] 25 (0,0)):=by rw[<-fe];exact aJ _ _
 have B2:=aH aO aO.size aB;have D2:=Jv.below aB;obtain⟨q0,q1,q2,q3,q4⟩:=dM z2;have hsp:=znj _ _ _ _ d W2 D2 (ztx Jv xP);have Ja:=ah z2;have yK:=ah D2;have jB:=ah B2;clear Jv xP aO aB z2 B2 D2
 go_wp2_with fail
 refine hsp.mono ?_;intro e w3 hA;obtain⟨s0,s1,s2,s3,s4,s5,s6,r0,r1,r2,r3,r4,r5,r6,rfl,_,fD⟩:=zmo hA (T:=pz d) rfl (ZR uu.out);have hX1:w1.heap.size<w3.heap.size:=dR (ay Ja.out) fD.size;clear hsp hA q0 q1 q2 q3 q4;obtain⟨W4,hW4⟩:∃W4,w3.alloc (ze #[.slice s0 (pz d).ai.length r0,zc .i64 (pz d).width,.slice s1 (pz d).base.length r1,.slice s2 (pz d).bA.length r2,.slice s3 (pz d).tag.length r3,.slice s4 (pz d).fin.length r4,.slice s5 (pz d).next.length r5,.slice s6 (pz d).az.length r6] 28)=W4:=⟨_,rfl⟩;have de:zd w3.heap.size w3 W4:=by rw[<-hW4];exact ax
 have Em:=aH fD fD.size de;have B4:=aH jB.out jB.out.size Em;have JT:=PG.out W4 B4;clear fe
 go_wp2_with fail
 refine JT.mono ?_;rintro e w5 ⟨cv,nv,tv,ev,rfl,WB,hp5,cQ⟩;have B5:=aH B4 B4.size cQ;have hip:=zmW cv nv tv ev d w5 WB uu.out (ztx WB hp5) (HBr.out w5 B5);clear JT hW4
 go_wp2_with fail
 refine hip.mono ?_;intro e w6 hA;obtain⟨t0,t1,t2,t3,t4,t5,t6,k0,k1,k2,k3,k4,k5,k6,rfl,Xe,iu⟩:=zmo hA (T:=pz d) rfl (ZR uu.out);have FZ:=ah (ZR uu.out);have Gz:=aH (aH Em Em.size cQ) (cY Em.size cQ.size) iu;clear hip hA WB hp5 fD de Em B4 cQ B5 iu;have HP:=ah (λhB=>zs0 (d:=d) hB);have Ux:zf (jO d=0->dH d=true):=by
  intro h;cases hB:dH d
  ·unfold jO at h;rw[af hB]at h;omega
  ·rfl
 generalize pz d=T at *;generalize jO d=code at *;obtain⟨L0,Gs⟩:∃L,T.ai.length=L:=⟨_,rfl⟩;obtain⟨L1,AO⟩:∃L,T.base.length=L:=⟨_,rfl⟩;obtain⟨L2,xH⟩:∃L,T.bA.length=L:=⟨_,rfl⟩;obtain⟨L3,JB⟩:∃L,T.tag.length=L:=⟨_,rfl⟩;obtain⟨L4,JC⟩:∃L,T.fin.length=L:=⟨_,rfl⟩;obtain⟨L5,JD⟩:∃L,T.next.length=L:=⟨_,rfl⟩;obtain⟨L6,JE⟩:∃L,T.az.length=L:=⟨_,rfl⟩;have HLs:=ah (And.intro Gs (And.intro AO (And.intro xH (And.intro JB (And.intro JC (And.intro JD JE))))));rw[Gs,AO,xH,JB,JC,JD,JE]at Xe ⊢;clear Gs AO xH JB JC JD JE;obtain⟨W7,Ek⟩:∃W7,w6.alloc (ze #[.slice t0 L0 k0,zc .i64 T.width,.slice t1 L1 k1,.slice t2 L2 k2,.slice t3 L3 k3,.slice t4 L4 k4,.slice t5 L5 k5,.slice t6 L6 k6] 28)=W7:=⟨_,rfl⟩;have ij:zd w6.heap.size w6 W7:=by rw[<-Ek];exact ax
 have z7:W7.heap[w6.heap.size]?=za (ze #[.slice t0 L0 k0,zc .i64 T.width,.slice t1 L1 k1,.slice t2 L2 k2,.slice t3 L3 k3,.slice t4 L4 k4,.slice t5 L5 k5,.slice t6 L6 k6] 28 (0,0)):=by rw[<-Ek];exact aJ _ _
 have En:=aH Gz Gz.size ij;have Pw:=ah (aH jB.out jB.out.size En);have PY:=ah (Xe.below ij);have HD7:=ah (yK.out.below En);have DL:=ah z7;have Hx7:=ah (aT Ja.out En);have HW7:=ah Ek;have hX2:w1.heap.size<w6.heap.size:=dR (ay Ja.out) Gz.size;clear Gz ij z7 En Xe jB yK Ja hX1 PG HBr Ek
 go_upto_region 6 with fail
 rw[HW7.out];clear HW7;generalize w1.heap.size=X1 at *;generalize w6.heap.size=X2 at *;have hcc:(code != code)=false:=by simp
 by_cases Cf:code=0
 case neg=>
  have pO:(code != 0)=true:=by simp[Cf]
  go_wp2;go_ret;exact⟨rfl,Pw.out⟩
 subst Cf;obtain⟨hTB,hTt,hTf,hTb,hLk⟩:=HP.out (Ux.out rfl) rfl;have F3:=ah (C6 (Ux.out rfl));have I6:=ah hTB;have HTt:=ah hTt;have HTf:=ah hTf;have HTb:=ah hTb;have HLk:=ah hLk;clear HP Ux hTB hTt hTf hTb hLk hcc;obtain⟨y0,y1,y2,y3,y4,y5,y6,y7⟩:=Ia DL.out;have YH:=On _ _ _ _ _ _ _ T W7 PY.out FZ.out;rw[I6.out]at YH
 go_wp2_with fail
 refine YH.mono ?_;rintro e w8 ⟨rfl,gQ⟩;clear YH y0 y1 y2 y3 y4 y5 y6 y7;have z8:=aT DL.out gQ;obtain⟨y0,y1,y2,y3,y4,y5,y6,y7⟩:=Ia z8;have iC:=zjP _ _ _ _ _ _ _ T w8 (PY.out.below gQ) FZ.out;have zyL:D7 T=⟨(eN T).toArray⟩:=by unfold D7;rw[I6.out];rfl
 rw[zyL]at iC
 go_wp2_with fail
 refine iC.mono ?_;rintro e w9 ⟨rfl,JQ⟩;clear iC zyL y0 y1 y2 y3 y4 y5 y6 y7;have Xr:=aH gQ gQ.size JQ;have EB:=zo8 I6.out;have hsz:(⟨(eN T).toArray⟩:ByteArray).size<=1048576:=by
  have h1:(⟨(eN T).toArray⟩:ByteArray).size=268+8*T.base.length+4*T.next.length:=zi0 T;have h2:=(OH I6.out).n2;have h3:=(OH I6.out).nm;omega
 have vZ:=zmV ⟨(eN T).toArray⟩ w9 hsz;rw[EB.1]at vZ;generalize (⟨(eN T).toArray⟩:ByteArray)=img at *
 go_wp2_with fail
 refine vZ.mono ?_;intro e kf hA;obtain⟨Zf,Zg,Zh,Zi,Zj,Zk,Zl,j0,j1,j2,j3,j4,j5,j6,rfl,WY,uH⟩:=zmo hA (T:=T) EB.2 FZ.out;obtain⟨Gs,AO,xH,JB,JC,JD,JE⟩:=HLs.out;rw[Gs,AO,xH,JB,JC,JD,JE]at WY ⊢;clear vZ hA EB hsz Gs AO xH JB JC JD JE;obtain⟨vG,Gw⟩:∃vG,kf.alloc (ze #[.slice Zf L0 j0,zc .i64 T.width,.slice Zg L1 j1,.slice Zh L2 j2,.slice Zi L3 j3,.slice Zj L4 j4,.slice Zk L5 j5,.slice Zl L6 j6] 28)=vG:=⟨_,rfl⟩;have Xq:zd kf.heap.size kf vG:=by rw[<-Gw];exact ax
 have z11:vG.heap[kf.heap.size]?=za (ze #[.slice Zf L0 j0,zc .i64 T.width,.slice Zg L1 j1,.slice Zh L2 j2,.slice Zi L3 j3,.slice Zj L4 j4,.slice Zk L5 j5,.slice Zl L6 j6] 28 (0,0)):=by rw[<-Gw];exact aJ _ _
 have Rn:=aH Xr Xr.size uH;have JP:=aH Rn Rn.size Xq;have Pv:=ah (aH Pw.out Pw.out.size JP);have zAd:=ah (PY.out.below JP);have P4:=ah (WY.below Xq);have UB:=ah (HD7.out.below JP);have Qo:=ah z11;have zAt:=ah (aT DL.out JP);have VI:=ah (aT Hx7.out JP);have zxH:=ah Gw;have hX3:X2<kf.heap.size:=dR (ay DL.out) Rn.size;clear gQ z8 JQ Xr uH Xq z11 Rn JP WY Pw PY HD7 DL Hx7 Gw
 go_upto_region 14 with fail
 rw[zxH.out];clear zxH;generalize kf.heap.size=X3 at *;obtain⟨p0,p1,p2,p3,p4,p5,p6,p7⟩:=Ia Qo.out;obtain⟨y0,y1,y2,y3,y4,y5,y6,y7⟩:=Ia zAt.out;have hst:=zlQ _ _ _ _ _ _ _ _ _ _ _ _ _ _ T vG P4.out zAd.out FZ.out
 go_wp2_with fail
 refine hst.mono ?_;rintro e w12 ⟨rfl,Gy⟩;clear hst p0 p1 p2 p3 p4 p5 p6 p7 y0 y1 y2 y3 y4 y5 y6 y7;obtain⟨p0,p1,p2,p3,p4,p5,p6,p7⟩:=Ia (aT Qo.out Gy);obtain⟨q0,q1,q2,q3,q4⟩:=dM (aT VI.out Gy);have dg:=ZT _ _ d.tag w12 (HTt.out ▸ (P4.out.below Gy).tag) (UB.out.below Gy).tag (by have:=uu.out.2.2.1;omega)
 go_wp2_with fail
 refine dg.mono ?_;rintro e w13 ⟨rfl,Cc⟩;have Cc:=aH Gy Gy.size Cc;clear dg p0 p1 p2 p3 p4 p5 p6 p7 q0 q1 q2 q3 q4;obtain⟨p0,p1,p2,p3,p4,p5,p6,p7⟩:=Ia (aT Qo.out Cc);obtain⟨q0,q1,q2,q3,q4⟩:=dM (aT VI.out Cc);have dg:=ZT _ _ d.fin w13 (HTf.out ▸ (P4.out.below Cc).fin) (UB.out.below Cc).fin (by have:=uu.out.2.2.2;omega)
 go_wp2_with fail
 refine dg.mono ?_;rintro e Zn ⟨rfl,JO⟩;have JO:=aH Cc Cc.size JO;clear dg p0 p1 p2 p3 p4 p5 p6 p7 q0 q1 q2 q3 q4 Gy Cc;have zxJ:=ah JO;obtain⟨cb,co,nb,no,tb,wD,eb,eo,rfl,rfl,rfl,rfl,rfl,rfl,hR⟩:=zvD UB.out F3.out (λW hb=>aT VI.out hb);have HR:=ah hR;have hN:1<=d.tag.length/\d.tag.length<=4000:=by have h1:=F3.out.n1;have h2:=F3.out.n2;omega
 have q3:=(hR Zn JO).s3;have EE:=(hR Zn JO).n0e;subst EE;obtain⟨n,hn⟩:∃n,d.tag.length=n:=⟨_,rfl⟩;have Hn:=ah hn;rw[hn]at hN q3;have HV:zf (∀s ch:Nat,s<n->ch<256->ui T (s:Int) (ch:Int)=(fj d s (kw d ch):Int)):=by
  intro s ch hs hch;have aV:=F3.out.yX hch;have hs':s<d.tag.length:=by rw[Hn.out];exact hs
  have h1:=HLk.out s ch hs' hch;unfold ui;rw[I6.out,kK.2 ⟨by omega,by have:=HTb.out;omega⟩,kK.2 ⟨by omega,by omega⟩];simp only[Bool.and_self,if_true,s7];rw[h1,aV.1,s7];exact(F3.out.nx hs' aV.2).1
 clear hR hn HLk JO
 go_upto_region 18 with fail
 go_cut [82] from 81 to 82 (λv wx=>v=.bool (decide (60<n))/\wx=Zn)
 case first=>
  by_cases MB:60<n
  ·have zA2:(60:Int)<(n:Int):=by omega
   go_wp2
   go_meet
   exact⟨by simp[MB],rfl⟩
  ·have zA2:¬(60:Int)<(n:Int):=by omega
   go_wp2
   go_meet
   exact⟨by simp[MB],rfl⟩
 obtain⟨rfl,xV⟩:=hcut;subst xV
 rename_i K hK
 refine hK _ _ ?_;clear hK K
 go_cut [14] from 82 to 84 (λv wx=>(∃st:Nat,1<=st/\st<=200/\v=zc .i64 (st:Int))/\wx=wc)
 case first=>
  by_cases MB:60<n
  ·rw[show decide (60<n)=true from decide_eq_true MB];have hq:IntKind.i64.wrap ((n:Int).tdiv 20)=((n/20:Nat):Int):=by rw[Int.tdiv_eq_ediv_of_nonneg (by omega),zvO (by omega) (by omega)];omega
   go_wp2
   go_meet
   exact⟨⟨n/20,by omega,by omega,by first|rfl|exact congrArg (Value.int .i64) hq⟩,rfl⟩
  ·rw[show decide (60<n)=false from decide_eq_false MB];go_wp2
   go_meet
   exact⟨⟨1,by omega,by omega,rfl⟩,rfl⟩
 case rest=>
  obtain⟨⟨st,cI,pV,rfl⟩,rfl⟩:=hcut;clear q3;go_wp2
  go_loopw [15] (λi wr=>∃s:Nat,s<=4200/\i=zc .i64 (s:Int)/\zd vG.heap.size vG wr) (λi _=>4200-(intOf i).toNat)
  case atStart=>exact⟨0,by omega,rfl,zxJ.out⟩
  case round=>
   clear zxJ;obtain⟨s,hs,rfl,hb⟩:=hrel
   by_cases hlt:s<n
   ·have Cm:(s:Int)<(n:Int):=by omega
    have Hb:=ah hb;clear hb;go_wp2
    go_loopw [16] (λi wr=>∃k:Nat,k<=4/\i=zc .i64 (k:Int)/\zd vG.heap.size vG wr) (λi _=>4-(intOf i).toNat)
    case atStart=>exact⟨0,by omega,rfl,Hb.out⟩
    case round=>
     clear Hb;obtain⟨k,hk,rfl,hb⟩:=hrel;have Hb:=ah hb;clear hb
     by_cases jf:k<4
     ·have zBN:(k:Int)<4:=by omega
      go_upto_region 27 with fail
      go_cut [98] from 97 to 98 (λv wx=>v=.bool (decide (k=3))/\wx=wr)
      case first=>
       by_cases bQ:k=3
       ·have zBM:((k:Int)==3)=true:=by simp;omega
        have Qh:=ah bQ;clear bQ;go_wp2
        go_meet
        exact⟨by simp[Qh.out],rfl⟩
       ·have zBM:((k:Int)==3)=false:=by simp;omega
        go_wp2
        go_meet
        exact⟨by simp[bQ],rfl⟩
      obtain⟨rfl,xV⟩:=hcut;subst xV
      rename_i K hK
      refine hK _ _ ?_;clear hK K;obtain⟨V,hV⟩:∃V,V=wc:=⟨_,rfl⟩;subst hV
      go_cut [17] from 98 to 101 (λv wx=>(∃ch:Nat,ch<256/\v=zc .i64 (ch:Int))/\wx=V)
      case first=>
       by_cases bQ:k=3
       ·rw[show decide (k=3)=true from decide_eq_true bQ];clear bQ;have wi:=HPk.out V (aH Pv.out Pv.out.size Hb.out) s (by omega)
        go_wp2_with fail
        refine wi.mono ?_;rintro e w' ⟨⟨x,hx,rfl⟩,rfl⟩;clear wi;go_wp2
        go_meet
        exact⟨⟨x,hx,rfl⟩,rfl⟩
       ·rw[show decide (k=3)=false from decide_eq_false bQ];go_wp2
        go_meet
        exact⟨⟨97+k,by omega,congrArg (Value.int .i64) (by omega)⟩,rfl⟩
      case rest=>
       obtain⟨⟨ch,hch,rfl⟩,rfl⟩:=hcut;have Hv:=ah (HV.out s ch hlt hch);have aV:=F3.out.yX hch;have hwd:=F3.out.wd;have Yz:s<d.tag.length:=by rw[Hn.out];exact hlt
       have ux:=ah λ(e:qW wc)=>HR.out e.W (aH Hb.out Hb.out.size e.h)
       have zyX:=((ux.out ⟨wc,Below.refl _ _⟩).nxt s (kw d ch) Yz aV.2).2;obtain⟨P,u1,u2,u3,u4,u5,u6⟩:=TC (s:=s) (wd:=bn d) (c:=kw d ch) (by omega) hwd.2.2 zyX;have x0:∀e:qW wc,e.W.cell? ⟨X1,0,zb⟩=za (zi (za ⟨cb,co,zb⟩) 256 c0):=λe=>(ux.out e).s0
       have x1:∀e:qW wc,e.W.cell? ⟨X1,1,zb⟩=za (zc .i64 (bn d:Int)):=λe=>(ux.out e).s1
       have x2:∀e:qW wc,e.W.cell? ⟨X1,2,zb⟩=za (zi (za ⟨nb,no,zb⟩) n1 c1):=λe=>(ux.out e).s2
       have x3:∀e:qW wc,e.W.cell? ⟨cb,co+ch,zb⟩=za (zc .i64 (kw d ch:Int)):=λe=>(ux.out e).cls ch hch
       have x4:∀e:qW wc,e.W.cell? ⟨nb,no+(P+(kw d ch:Int)).toNat,zb⟩=za (zc .i64 (fj d s (kw d ch):Int)):=λe=>by rw[u6];exact((ux.out e).nxt s (kw d ch) Yz aV.2).1
       have BJ:=ah λ(e:qW wc)=>Ia (aT Qo.out (aH Hb.out Hb.out.size e.h))
       have y0:=λe=>(BJ.out e).1
       have y1:=λe=>(BJ.out e).2.1
       have y2:=λe=>(BJ.out e).2.2.1
       have y3:=λe=>(BJ.out e).2.2.2.1
       have y4:=λe=>(BJ.out e).2.2.2.2.1
       have y5:=λe=>(BJ.out e).2.2.2.2.2.1
       have y6:=λe=>(BJ.out e).2.2.2.2.2.2.1
       have y7:=λe=>(BJ.out e).2.2.2.2.2.2.2
       have zyG:kw d ch<256:=by omega
       generalize kw d ch=x at *;generalize fj d s x=z at *;generalize bn d=D at *;have i0:(0:Int)<=(ch:Int):=by omega
       have i1:(ch:Int)<256:=by omega
       have WA:=hwd.2.2;have DK:=ah hwd;have Hc:=ah aV;clear hwd aV zyX u6 BJ ux Yz
       go_upto_region 29 with fail
       refine ziI [0,1,2,4,5,6,7,8,9,10,11,12,13,14,15,16,17] [3,18] 18 (λw'=>∃s:qW wc,w'=s.W) fF ⟨⟨wc.drew,(Below.refl _ _).drew⟩,rfl⟩ (by kernel_rfl) ?_;intro os bN;simp only[jw,jx,jA,jy]at bN;subst bN
       change wpQuiet _ _ _ _ [_,_,_,_,_,_,_,_,_,_,_,_,_,_,_,_,_] _
       repeat (go_big_quiet_step (fail))
       refine wpQuiet_nil ?_;rintro w' ⟨⟨Wb,Gx⟩,hw'⟩ r' dC;replace hw':w'=Wb:=hw';subst w';simp only[jw,jx,jA,jy,rQ]at dC;subst dC;clear x0 x1 x2 x3 x4 y0 y1 y2 y3 y4 y5 y6 y7;have dA:=aH Hb.out Hb.out.size Gx;have Nr:=zjR _ _ _ _ _ _ _ T (s:Int) (ch:Int) Wb (P4.out.below dA) FZ.out;rw[Hv.out]at Nr;refine mj rfl (λK5 bM=>?_);refine yk 13 #[.tmp 102,.tmp 103,.tmp 104] #[28,3,3] (by rfl) #[.agg #[.slice Zf L0 j0,zc .i64 T.width,.slice Zg L1 j1,.slice Zh L2 j2,.slice Zi L3 j3,.slice Zj L4 j4,.slice Zk L5 j5,.slice Zl L6 j6],zc .i64 (s:Int),zc .i64 (ch:Int)] (by simp[Act.eval]) (λv w'=>v=zc .i64 (z:Int)/\zd Wb.heap.size Wb w') (zoL _ _) (Nr.mono (by
        rintro e w1 ⟨rfl,h1⟩;exact⟨_,rfl,rfl,h1⟩)) ?_
       rintro v8 W8 ⟨rfl,gQ⟩;have HB8:=ah (aH dA dA.size gQ);refine bM _ _ (λ_=>⟨⟨_,aH Gx Gx.size gQ⟩,rfl⟩) ?_;clear bM K5 Nr;have Sx:((z:Int) != (z:Int))=false:=by simp
       refine tZ (by simp) (λ_ _ h=>h) ?_
       change wpList _ _ _ [_] _ _
       simp only[Act.put,vl,yF,yB];go_wp2;rw[qc];go_wp2
       go_roundw
       case rel=>exact⟨k+1,by omega,by go_num,HB8.out⟩
       case measure=>simp[intOf];omega
     ·have zBN:¬(k:Int)<4:=by omega
      go_wp2
      go_roundw
      case rel=>exact⟨s+st,by omega,by go_num,Hb.out⟩
      case measure=>simp[intOf];omega
   ·have zDl:¬(s:Int)<(n:Int):=by omega
    have Bw:=ah (aH Pv.out Pv.out.size hb);clear hb;go_wp2;go_ret;exact⟨rfl,Bw.out⟩
end
section
open Go.RowKit Go.ChangeShapes Go.WideShapes Go.ChangeAt
theorem Tryz.zAT:prog.cellsOf 5=1:=by kernel_rfl
section
variable {H:Type} {enc:zj×zh->H} {W:zg} {spare:Nat->Bool} {held:Bool}
theorem zm8{fuel:Nat}{c:zh}{x:DataW H×List MemPlace}(h:DataW.trod enc prog W 0 spare held fuel 22 [c]=za x):∃(ao:Option Addr) (xs:List UInt8) (cap:Nat),c=.slice ao xs.length cap/\xs.length<=9223372036854775807/\Dh W ao xs:=by
 rcases Go.Deep.open_slice underlying22 h with ⟨hc,_⟩|⟨a,len,cap,m,n,D,Pl,hc,_,J8,zm,xO,_,hx⟩
 ·simp only[List.cons.injEq,and_true]at hc;exact⟨zb,[],0,hc,by simp,λh0=>absurd h0 (fw _)⟩
 ·simp only[List.cons.injEq,and_true]at hc;have EC:len<=m:=by rw[xO];split<;>omega
  rw[Tryz.zAT]at hx;rcases Nat.eq_zero_or_pos len with h0|h0
  ·subst h0;exact⟨za a,[],cap,hc,by simp,λh0=>absurd h0 (fw _)⟩
  ·obtain⟨b,o,C,rfl,hb,hC⟩:=zq0 (W:=W) (a:=a) (len:=len) (sz:=1) (E:=λcs=>∃r:UInt8,cs=[.int .u8 (r.toNat:Int)]) (by omega) (λi hi=>by
    obtain⟨D6,h1,h2⟩:=hx i (by omega);obtain⟨k,he,_,hw⟩:=DataW.trod_int underlying5 h2;have hk:0<=k/\k<=255:=by simp[Lit.wf,IntKind.min,IntKind.max,IntKind.signed,IntKind.bits]at hw;omega
    refine⟨D6,h1,UInt8.ofNat k.toNat,?_⟩;rw[he];have:(UInt8.ofNat k.toNat).toNat=k.toNat:=by simp;omega
    rw[this];simp;omega) h0
   obtain⟨F,hF⟩:=Go.Deep.choose_lt (α:=UInt8) (p:=λi r=>C i=[.int .u8 (r.toNat:Int)]) (λi hi=>(hC i hi).1);refine⟨za ⟨b,o,zb⟩,(List.range len).map F,cap,by rw[hc];simp,by simp;exact Ii (cY J8 zm),λ_=>⟨b,o,rfl,hb,λi hi=>?_⟩⟩;have lJ:i<len:=by simpa using hi
   rw[zkc F 0 len i lJ];have q0:=(hC i lJ).2 0 (by omega);rw[hF i lJ]at q0
   simpa using q0
theorem zhW{r:Reach}{b0:Nat}{v:zh}{d:DataW H}{p:List MemPlace}(hv:Value.okWide prog W r b0 22 v)(h:DataW.Trod enc prog W 0 spare held 22 v d p):∃(ao:Option Addr) (xs:List UInt8) (cap:Nat),v=.slice ao xs.length cap/\xs.length<=9223372036854775807/\Dh W ao xs:=by
 obtain⟨a,l,c,rfl⟩:=okWide_slice underlying22 hv;obtain⟨fuel,hf⟩:=h;exact zm8 hf
end
end
open Go.ChangeShapes Go.WideShapes Go.ChangeAt Go.RowKit Go.Joins
theorem Tryz.own:ownKnob prog.godebug=zb:=by kernel_rfl
theorem Tryz.laidOut:laidOutB prog=true:=by kernel_rfl
theorem Tryz.zzQ:prog.globalNamed "math/bits.deBruijn64tab" = za 0:=by kernel_rfl
theorem Tryz.zCw:(prog.globals[0]?).map (·.type)=za 151:=by kernel_rfl
theorem Tryz.zAU:prog.cellsOf 5=1:=by kernel_rfl
theorem Tryz.zAV:prog.cellsOf 151=64:=by kernel_rfl
theorem ziv{W:zg}(h:laidMetH prog Rows.fnImageRow.laid W):Dg W:=by
 have h':laidMet prog [("math/bits.deBruijn64tab",Lib.tabData .u8 (Pc.map λn:Nat=>(n:Int)))] W:=h;have hT:=Lib.tabIs_of_head Tryz.zzQ Tryz.zCw underlying151 underlying5 Tryz.zAU Tryz.zAV h';intro i hi;have lJ:i<Pc.length:=hi;have:=hT.cell Tryz.zzQ i (by simpa using lJ);rw[this];simp[List.getD,lJ]
noncomputable def zlo (os:Os):zg:=
 {World.holding prog os ⟨#[],#[],[]⟩with heap:=(World.holding prog os ⟨#[],#[],[]⟩).heap.modify 0 fun
   |ze _ t frozen=>ze (Pc.map λn:Nat=>Value.int .u8 (n:Int)).toArray t frozen
   |o=>o}
theorem zj2(os:Os)(args:Array zh):laidMetH prog Rows.fnImageRow.laid ((zlo os).forCall (λ_ _=>0) ⟨#[],args,[]⟩).memory:=
 laidMet_of_run' 8 (by kernel_rfl) (by kernel_rfl)
theorem ziz(os:Os)(started:os.Started)(H:Type)(enc:zj×zh->H):
  ReturnsInHanded {} checked os 3 .any (λw args=>(Rows.fnImageSpec.pre enc prog f3 Rows.fnImageRow.domain false w args/\laidMetH prog Rows.fnImageRow.laid w)/\sizedMet enc prog f3 (OpenSpec.ofChange Rows.fnImageSpec) false w args)
   (Rows.fnImageSpec.post enc prog f3 false true false false):=by
 refine returnsInHanded_of_change_and (C:=checked) (X:=λw _=>laidMetH prog Rows.fnImageRow.laid w) (λ_ _ _ hh h=>h.of_heap hh) Tryz.own started (by kernel_rfl) func3
  (ChangeSpec.witness_at (enc:=enc) (C:=checked) (os:=os) (X:=λw _=>laidMetH prog Rows.fnImageRow.laid w) false (zlo os) #[zi zb 0 0,zi zb 0 0] 8 rfl (by kernel_rfl) (by kernel_rfl) (by kernel_rfl) (by kernel_rfl) (by kernel_rfl) (zj2 os _)) ?_
 intro W base args ds gs before zzF hW _ _ hL _;have hval:∀(j:Nat) t v,f3.params[j]?=za t->args[j]?=za v->Value.okWide prog W .any base t v:=zzF;have hW':=hW;obtain⟨p,q,hA0,hV,rfl,hfz,Cr⟩:=hW;have hA:DataW.TrodAll enc prog W 0 (λ_=>true) true f3.params.toList args.toList ds p:=hA0;rw[params3]at hA hval;obtain⟨v0,vs0,d0,ds0,p0,q0,El,rfl,rfl,h0,r0⟩:=trodAll_cons hA;obtain⟨v1,vs1,d1,ds1,p1,q1,zC6,rfl,rfl,h1,r1⟩:=trodAll_cons r0;obtain⟨rfl,rfl,rfl⟩:=trodAll_nil r1;obtain rfl:args=#[v0,v1]:=by cases args;simp_all
 obtain⟨rfl,rfl⟩:=trodVars_none hV;have k0:=h0;have k1:=h1;have lt0:∀x∈p0,x.block<W.heap.size:=by obtain⟨m,hm⟩:=k0;exact DataW.trod_lt m _ _ _ hm
 have lt1:∀x∈p1,x.block<W.heap.size:=by obtain⟨m,hm⟩:=k1;exact DataW.trod_lt m _ _ _ hm
 obtain⟨ao,xs,cap,rfl,hl,hC⟩:=zhW (hval 0 22 v0 rfl rfl) h0;obtain⟨mo,ms,Kr,rfl,eE,hM⟩:=zhW (hval 1 22 v1 rfl rfl) h1;clear hA0 zzF;have hB:=ziv hL;have hz:0<W.heap.size:=block_lt_of_cell (hB 0 (by omega));refine(zm0 W ao mo xs ms cap Kr hC hM hl eE hB hz).mono λe W' ⟨he,VO⟩=>?_
 subst he;exact⟨_,rfl,_,_,_,[],_,[],hW',trodAll_mk1 (shut_bool underlying4 _),(trodAll_cons_mk (Below.trod Tryz.laidOut (by kernel_rfl) (of_decide_eq_true (by kernel_rfl)) k0 VO lt0) (trodAll_cons_mk (Below.trod Tryz.laidOut (by kernel_rfl) (of_decide_eq_true (by kernel_rfl)) k1 VO lt1) trodAll_mk0)),rfl,VO.frame _,λh=>by cases h⟩
theorem zmL:Rows.FnImageSaid:=
 OpenClaim.holds_of_wide 3 f3 rfl rfl rfl rfl rfl rfl rfl ⟨rfl,rfl,rfl,rfl,rfl⟩ rfl rfl rfl rfl rfl (by kernel_rfl) func3 (by kernel_rfl)
  (of_decide_eq_true (by kernel_rfl)) (by unfold Func.isWrapper;first|(rw[af (by decide +kernel)];kernel_rfl)|(rw[ab (by decide +kernel)];exact⟨rfl,rfl⟩))
  (λos started H enc _=>ziz os started H enc)
theorem fnImage_holds:Rows.FnImageCardSaid:=
 Claim7.holds_tied_plain_at .later [] [.data] true Rows.fnImageCard.stood.harness Rows.fnImageCard.stood.looks
  zmL (λ_ h=>by cases h) (by kernel_rfl) (λ_ h=>by cases h) fnImage_row_tie rfl ⟨rfl,rfl⟩ (by kernel_rfl) rfl
  (λf fn hf hfn=>by
   obtain rfl:f=3:=Option.some.inj ((show prog.funcNamed "loop.example/s0007/laws.FnImage" = za 3 by kernel_rfl).symm.trans hf) |>.symm
   obtain rfl:fn=f3:=(Option.some.inj (func3.symm.trans hfn)).symm;exact⟨by kernel_rfl,λj t ht=>by
    rw[params3]at ht;have h3:t=22:=by
     rcases j with _|_|j
     ·simpa using ht.symm
     ·simpa using ht.symm
     ·simp at ht
    subst h3;exact(show prog.wantsStandIn 22=false by kernel_rfl)⟩)
  (by kernel_rfl)
#print axioms fnImage_holds
end Go.Proofs.YtfajjdgkiilhfaaGreatDoor
