import Derived.Test.YtdimhpfiieepiaaGreatDoorC14
import Derived.Deep.RegionHeld3
namespace Go.Proofs.YtdimhpfiieepiaaGreatDoor
open Proofs.Tryz
open Option renaming some->za,none->zc
open Value renaming int->zb,slice->zk,agg->zl,pointer->zm
open Go renaming Value->zd,World->ze,Calls->zi,TypeId->zn
open RowKit renaming Hid->zf,Below->zg
open Obj renaming cells->zh
set_option maxHeartbeats 4000000
set_option maxRecDepth 100000
open Go.RowKit
attribute [local go_sem ↓] wp_at_zero wp_at_succ
theorem zss{lo:Nat}(cv bv fv tv ev nv kv:zd)(d:bj)(s c:Nat)(w:ze)(hs:fV lo w cv bv fv tv ev nv kv d)(hf:yn d)(dD:s<d.base.length)(hc:c<256):
  zi prog 76 #[zl #[cv,zb .i64 d.width,bv,fv,tv,ev,nv,kv],zb .i64 s,zb .i64 c] w λe w'=>e=.returned (zb .i64 (qp d s c))/\zg w.heap.size w w':=by
 obtain⟨⟨a0,p0,rfl,m0,y0⟩,⟨a1,p1,rfl,m1,y1⟩,⟨a2,p2,rfl,m2,y2⟩,⟨a3,p3,rfl,m3,y3⟩,⟨a4,p4,rfl,m4,y4⟩,⟨a5,p5,rfl,m5,y5⟩,⟨a6,p6,rfl,m6,y6⟩⟩:=hs;have iq:=hf.cl;have rT:=hf.n1;have n8:=hf.n2;have zj:=hf.dl;have hnk:=hf.nk;have mQ:=hf.nm;obtain⟨x0,x1,z0,z1,mf⟩:=hf.bd dD hc;obtain⟨cb,co,rfl,_,cl,cq⟩:=y0 (by omega);obtain⟨bb,bo,rfl,_,bl,bq⟩:=y1 (by omega);obtain⟨fb,fo,rfl,_,fl,fq⟩:=y2 (by omega);have c0:w.cell? ⟨cb,co+c,zc⟩=za (zb .i64 (oC d c)):=cq c (by omega);have b0:w.cell? ⟨bb,bo+s,zc⟩=za (zb .i64 (oB d s)):=bq s dD;have f0:w.cell? ⟨fb,fo+s,zc⟩=za (zb .i64 (zU d s)):=fq s (by omega);have i0:(0:Int)<=(s:Int):=by omega
 have i1:(s:Int)<(d.base.length:Int):=by omega
 have i2:(0:Int)<=(c:Int):=by omega
 have i3:(c:Int)<(d.cG.length:Int):=by omega
 have i4:(s:Int)<(d.cA.length:Int):=by omega
 by_cases h:kM d s c<d.bH.length
 case' neg=>
  have H:zf (qp d s c=zU d s):=ak (λk=>h k.1);have i5:¬oB d s+oC d c<(d.bH.length:Int):=by omega
  clear y5 y6
 case' pos=>
  obtain⟨kb,ko,rfl,_,kl,kq⟩:=y6 (by omega);have k0:w.cell? ⟨kb,ko+(oB d s+oC d c).toNat,zc⟩=za (zb .i64 (Gw d (kM d s c))):=kq (kM d s c) h;have i5:oB d s+oC d c<(d.bH.length:Int):=by omega
  by_cases h2:Gw d (kM d s c)=s
  case' pos=>
   obtain⟨nb,no,rfl,_,nl,nq⟩:=y5 (by omega);have n0:w.cell? ⟨nb,no+(oB d s+oC d c).toNat,zc⟩=za (zb .i64 (DO d (kM d s c))):=nq (kM d s c) (by omega);have i6:oB d s+oC d c<(d.next.length:Int):=by omega
   have H:zf (qp d s c=DO d (kM d s c)):=aC ⟨h,h2⟩;rw[h2]at k0;clear kq nq h2;generalize DO d (kM d s c)=q at *
  case' neg=>
   have H:zf (qp d s c=zU d s):=ak (λk=>h2 k.2);clear y5 kq;generalize Gw d (kM d s c)=q at *
 all_goals
  clear y3 y4 cq bq fq mf h;generalize oB d s=x at *;generalize oC d c=y at *;generalize zU d s=z at *
  go_enter func76,ntmps76
  go_wp2
  go_quiet (fail)
  go_wp2;go_ret;exact⟨gh H.out.symm,below_drewN (aw) _⟩
def eI(L:Int)(B:ByteArray)(C:Bool)(S N:Int):Array zd:=#[zb .i64 L,.string B,.bool C,zb .i64 S,zb .i64 N]
theorem zp5(g:Nat)(L:Int)(B:ByteArray)(C:Bool)(S N:Int)(w:ze)(hg:w.heap[g]?=za (zh (eI L B C S N) 32 (0,0))):
  zi prog 105 #[zm (za ⟨g,0,zc⟩)] w λe w'=>e=.returned (.tuple #[])/\ap (· = g) w w'/\w'.heap[g]?=za (zh (eI L B C 0 0) 32 (0,0)):=by
 obtain⟨c0,c1,c2,c3,c4⟩:=ja hg;have f3:=cT _ _ 3 _ _ hg;have f4:=cT _ _ 4 _ _ hg;have h1:=dE w g 4 _ _ (zb .i64 0) hg;have h2:=dE (w.setCell ⟨g,4,zc⟩ (zb .i64 0)) g 3 _ _ (zb .i64 0) h1;have HT:=ay (show ap (· = g) w ((w.setCell ⟨g,4,zc⟩ (zb .i64 0)).setCell ⟨g,3,zc⟩ (zb .i64 0)) from((ap.refl _ w).grown (iZ w g 4 _) (λk e=>.inl (Option.some.inj e).symm)).grown (iZ _ g 3 _) (λk e=>.inl (Option.some.inj e).symm));have H2:=ay h2;clear hg h1 h2
 go_enter func105,ntmps105
 go_wp2
 go_end0
 exact⟨rfl,HT.out,H2.out⟩
theorem zm8(g:Nat)(L:Int)(B:ByteArray)(C:Bool)(S N:Int)(b:Nat)(hb:b<=B.size)(w:ze)(hg:w.heap[g]?=za (zh (eI L B C S N) 32 (0,0))):
  zi prog 75 #[zm (za ⟨g,0,zc⟩),zb .i64 b] w λe w'=>e=.returned (.tuple #[])/\ap (· = g) w w'/\w'.heap[g]?=za (zh (eI L (B.extract b B.size) C 0 0) 32 (0,0)):=by
 obtain⟨c0,c1,c2,c3,c4⟩:=ja hg;have f1:=cT _ _ 1 _ _ hg;have h1:=dE w g 1 _ _ (.string (B.extract b B.size)) hg;have hT:ap (· = g) w (w.setCell ⟨g,1,zc⟩ (.string (B.extract b B.size))):=(ap.refl _ w).grown (iZ w g 1 _) (λk e=>.inl (Option.some.inj e).symm);have pu:=zp5 g L (B.extract b B.size) C S N _ h1;have HT:=ay hT;have af:(0:Int)<=(b:Int):=by omega
 have ag:(b:Int)<=(B.size:Int):=by omega
 clear hg h1 hT
 go_enter func75,ntmps75
 go_wp2_with fail
 refine pu.mono ?_;rintro e w2 ⟨rfl,h2,h3⟩;have HF:=ay (HT.out.trans h2);have H3:=ay h3;clear h2 h3 pu;go_wp2
 go_end0
 exact⟨rfl,HF.out,H3.out⟩
def AW(rv cv:zd)(wd:Int)(bv fv tv ev nv kv pv qv:zd):Array zd:=#[rv,cv,zb .i64 wd,bv,fv,tv,ev,nv,kv,pv,qv]
def P9(d:bj)(C:Bool)(q b n:Nat):Int:=if C&&b==n then d.fin.getD q 0 else d.tag.getD q 0
theorem zqY{lo:Nat}(bf g:Nat)(rv cv bv fv tv ev nv kv pv qv:zd)(d:bj)(L:Int)(B:ByteArray)(C:Bool)(q b:Nat)(w:ze)(hs:fV lo w cv bv fv tv ev nv kv d)(hf:yn d)(hq:q<d.base.length)
  (o9:w.heap[bf]?=za (zh (AW rv cv d.width bv fv tv ev nv kv pv qv) 128 (0,0))) (hg:w.heap[g]?=za (zh (eI L B C q b) 32 (0,0))):
  zi prog 73 #[zm (za ⟨bf,0,zc⟩),zm (za ⟨g,0,zc⟩)] w λe w'=>e=.returned (zb .i64 (P9 d C q b B.size))/\zg w.heap.size w w':=by
 obtain⟨c0,c1,c2,c3,c4⟩:=ja hg;have z5:w.cell? ⟨bf,5,zc⟩=za tv:=(aM _ _ _ _ _ _ o9:_=_);have z6:w.cell? ⟨bf,6,zc⟩=za ev:=(aM _ _ _ _ _ _ o9:_=_);obtain⟨tao,tcp,rfl,-,Mk⟩:=hs.tag;obtain⟨eao,HU,rfl,-,Lw⟩:=hs.fin;have rT:=hf.n1;obtain⟨tb,FL,rfl,-,mZ,Ml⟩:=Mk (by rw[hf.tl];omega);obtain⟨eb,eo,rfl,-,Lx,pW⟩:=Lw (by rw[hf.el];omega);have da:(0:Int)<=(q:Int):=by omega
 have cO:(q:Int)<(d.tag.length:Int):=by have:=hf.tl;omega
 have uM:(q:Int)<(d.fin.length:Int):=by have:=hf.el;omega
 have ct:=Ml q (by omega);have ce:=pW q (by omega);have Hn:zf (P9 d C q b B.size=if C&&b==B.size then d.fin.getD q 0 else d.tag.getD q 0):=rfl;clear hs Mk Lw Ml pW hf o9 hg;cases C
 ·go_enter func73,ntmps73
  go_wp2
  go_quiet (fail)
  go_wp2
  go_quiet (fail)
  go_wp2;go_ret;exact⟨gh (by rw[Hn.out];rfl),below_drewN (below_drewN (Below.refl _ _) _) _⟩
 ·cases nV:(b==B.size)
  ·have hd:((b:Int)==(B.size:Int))=false:=by simp at nV ⊢;omega
   go_enter func73,ntmps73
   go_wp2
   go_quiet (fail)
   go_wp2
   go_quiet (fail)
   go_wp2;go_ret;exact⟨gh (by rw[Hn.out,nV];rfl),below_drewN (below_drewN (Below.refl _ _) _) _⟩
  ·have hd:((b:Int)==(B.size:Int))=true:=by simp at nV ⊢;omega
   go_enter func73,ntmps73
   go_wp2
   go_quiet (fail)
   go_wp2
   go_quiet (fail)
   go_wp2;go_ret;exact⟨gh (by rw[Hn.out,nV];rfl),below_drewN (below_drewN (Below.refl _ _) _) _⟩
theorem jL{w:ze}{g:Nat}{a b c d e f h i j:zd}{t:zn}(z:w.heap[g]?=za (zh #[a,b,c,d,e,f,h,i,j] t (0,0))):w.cell? ⟨g,0,zc⟩=za a/\w.cell? ⟨g,1,zc⟩=za b/\w.cell? ⟨g,2,zc⟩=za c/\w.cell? ⟨g,3,zc⟩=za d/\w.cell? ⟨g,4,zc⟩=za e/\w.cell? ⟨g,5,zc⟩=za f/\w.cell? ⟨g,6,zc⟩=za h/\w.cell? ⟨g,7,zc⟩=za i/\w.cell? ⟨g,8,zc⟩=za j:=
 ⟨bX z 0,bX z 1,bX z 2,bX z 3,bX z 4,bX z 5,bX z 6,bX z 7,bX z 8⟩
theorem WR{lo:Nat}(ao:Option Addr)(rc:Nat)(cv bv fv tv ev nv kv:zd)(rs:List bi)(d:bj)(w:ze)(hr:fU lo w (.slice ao rs.length rc) rs)(hsm:pC rs)(hs:fV lo w cv bv fv tv ev nv kv d):
  zi prog 28 #[zl #[.slice ao rs.length rc,cv,zb .i64 d.width,bv,fv,tv,ev,nv,kv]] w λe w'=>e=.returned (.bool (og rs d))/\zg w.heap.size w w':=by
 obtain⟨W0,ai⟩:∃W0,w.alloc (zh #[.slice ao rs.length rc,cv,zb .i64 d.width,bv,fv,tv,ev,nv,kv] 41)=W0:=⟨_,rfl⟩;have af:zg w.heap.size w W0:=by rw[<-ai];exact aw
 have r0:W0.heap[w.heap.size]?=za (zh #[.slice ao rs.length rc,cv,zb .i64 d.width,bv,fv,tv,ev,nv,kv] 41 (0,0)):=by rw[<-ai];exact aI _ _
 have hl:=hsm.1;have mh:IntKind.i64.wrap ((rs.length:Int)-1)=(rs.length:Int)-1:=by rw[IntKind.wrap_i64];omega
 have c1:=zlg (.slice ao rs.length rc) rs W0 (hr.below af) hsm;have c2:=λW (hb:zg w.heap.size w W)=>zhB cv bv fv tv ev nv kv d W (hs.below hb)
 have c3:=λW (hb:zg w.heap.size w W)=>zQ (-1) ((rs.length:Int)-1) tv d.tag W (hs.below hb).tag
 have c4:=λW (hb:zg w.heap.size w W)=>zQ (-1) ((rs.length:Int)-1) ev d.fin W (hs.below hb).fin
 have Hm:zf (og rs d=(lu rs&&iy d&&bS (-1) (rs.length-1) d.tag&&bS (-1) (rs.length-1) d.fin)):=rfl;obtain⟨q0,q1,q2,q3,q4,q5,q6,q7,q8⟩:=jL r0;clear hr hs hsm;generalize lu rs=b1 at *;generalize iy d=b2 at *;generalize bS (-1) (rs.length-1) d.tag=b3 at *;generalize bS (-1) (rs.length-1) d.fin=b4 at *
 go_enter func28,ntmps28
 go_wp2_with fail
 refine c1.mono ?_;rintro e w1 ⟨rfl,ag⟩;have fu:=aq af af.size ag;have r1:=ck r0 ag;clear q0 q1 q2 q3 q4 q5 q6 q7 q8 ai c1;cases b1
 ·go_wp2;go_ret;exact⟨bz (by rw[Hm.out];rfl),fu⟩
 obtain⟨q0,q1,q2,q3,q4,q5,q6,q7,q8⟩:=jL r1;have c2:=c2 w1 fu
 go_wp2_with fail
 refine c2.mono ?_;rintro e w2 ⟨rfl,ae⟩;have dg:=aq fu fu.size ae;have r2:=ck r1 ae;clear q0 q1 q2 q3 q4 q5 q6 q7 q8 c2;cases b2
 ·go_wp2;go_ret;exact⟨bz (by rw[Hm.out];rfl),dg⟩
 obtain⟨q0,q1,q2,q3,q4,q5,q6,q7,q8⟩:=jL r2;have c3:=c3 w2 dg
 go_wp2_with fail
 refine c3.mono ?_;rintro e w3 ⟨rfl,Bx⟩;subst w3;clear c3;cases b3
 ·go_wp2;go_ret;exact⟨bz (by rw[Hm.out];rfl),dg⟩
 have c4:=c4 w2 dg
 go_wp2_with fail
 refine c4.mono ?_;rintro e w4 ⟨rfl,Bz⟩;subst w4;go_wp2;go_ret;exact⟨bz (by rw[Hm.out];rfl),dg⟩
section
variable {p q r s b:Pt}{u:aJ}{k i:Nat}{mx:Int}
structure ij(p q:Pt):Prop where
 wd:∀u,In p u↔In q u
 pl:∀u i j l,Lg u p i j->Pl u p i j l->Pl u q i j l
theorem ij.refl(p:Pt):ij p p:=⟨λ_=>Iff.rfl,λ_ _ _ _ _ h=>h⟩
theorem ij.trans(h:ij p q)(k:ij q r):ij p r:=⟨λu=>(h.wd u).trans (k.wd u),λu i j l a b=>k.pl u i j l ((tW h.wd).1 a) (h.pl u i j l a b)⟩
theorem zs1(h:ij p q)(g:Int):ij (.aT p g) (.aT q g):=⟨h.wd,λu i j _ a ⟨m,e,b⟩=>⟨m,e,h.pl u i j m a b⟩⟩
theorem zs4(h:ij p r)(k:ij q s):ij (.seq p q) (.seq r s):=by
 refine⟨λu=>exists_congr λx=>exists_congr λy=>and_congr_right λ_=>and_congr (h.wd x) (k.wd y),λu i j l _=>?_⟩;rintro ⟨m,l1,l2,g,h1,h2,e⟩;exact⟨m,l1,l2,g.congr λm _ _=>and_congr (tW h.wd) (tW k.wd),h.pl u i m l1 g.2.2.1.1 h1,k.pl u m j l2 g.2.2.1.2 h2,e⟩
theorem zs0(h:ij p r)(k:ij q s):ij (.aN p q) (.aN r s):=by
 refine⟨λu=>or_congr (h.wd u) (k.wd u),λu i j l a=>?_⟩;rintro (⟨h1,h2⟩|⟨h1,h2⟩)
 ·exact .inl ⟨(tW h.wd).1 h1,h.pl u i j l h1 h2⟩
 ·exact .inr ⟨λh3=>h1 ((tW h.wd).2 h3),k.pl u i j l ((YP.1 a).resolve_left h1) h2⟩
theorem zs3(h:ij p q)(mn mx:Int):ij (.az p mn mx) (.az q mn mx):=by
 have hw:∀(mn mx:Int) u,In (.az p mn mx) u↔In (.az q mn mx) u:=λmn mx u=>zjM h.wd mn mx u
 refine⟨hw mn mx,λu i j l h0 hc=>?_⟩;clear h0;replace hc:ii (Lg u p) (Pl u p) (λmn mx i j=>Lg u (.az p mn mx) i j) mn.toNat mx i j l:=hc;show ii (Lg u q) (Pl u q) (λmn mx i j=>Lg u (.az q mn mx) i j) mn.toNat mx i j l;generalize mn.toNat=n at hc
 induction hc with
 |done i j=>exact .done i j
 |pA i=>exact .pA i
 |out mx i j hm hn=>exact .out mx i j hm λk a b ⟨c,d⟩=>hn k a b ⟨(tW h.wd).2 c,(tW (hw _ _)).2 d⟩
 |must mn mx i j k l1 l2 g h1 h2 ih=>exact .must mn mx i j k l1 l2 (g.congr λm _ _=>and_congr (tW h.wd) (tW (hw _ _))) (h.pl u i k l1 g.2.2.1.1 h1) ih
 |may mx i j k l1 l2 hm g h1 h2 ih=>exact .may mx i j k l1 l2 hm (g.congr λm _ _=>and_congr (tW h.wd) (tW (hw _ _))) (h.pl u i k l1 g.2.2.1.1 h1) ih
 |more i j k l1 l2 hi g h1 h2 ih=>exact .more i j k l1 l2 hi (g.congr λm _ _=>and_congr (tW h.wd) (tW (hw _ _))) (h.pl u i k l1 g.2.2.1.1 h1) ih
theorem Nw(h:k<=u.length)(mx:Int)(hm:mx=-1\/0<=mx):Lg u (.az b ((0:Nat):Int) mx) k k:=wQ.2 ⟨h,0,by omega,by omega,rfl⟩
theorem Yk{P:Nat->Prop}{j:Nat}(dL:i<=j)(h:P j):qy P i j j:=⟨dL,aj _,h,λm a b=>by omega⟩
theorem zs2(p:Pt):ij p (.az p 1 1):=by
 refine⟨λu=>(zq9 p u).symm,λu i j l a h=>?_⟩;have:=ii.must (L:=Lg u p) (R:=Pl u p) (C:=λmn mx i j=>Lg u (.az p mn mx) i j) 0 1 i j j l [] (Yk a.1 ⟨a,Nw a.2.1 _ (.inr (by decide))⟩) h (.done j j);rw[ud]at this;exact this
theorem zmx(hm:0<mx){i j:Nat}{l:List Up}(a:Lg u b i j)(h:Pl u b i j l):mx=1->ii (Lg u b) (Pl u b) (λmn mx i j=>Lg u (.az b mn mx) i j) 0 mx i j l:=by
 rintro rfl;have:=ii.may (L:=Lg u b) (R:=Pl u b) (C:=λmn mx i j=>Lg u (.az b mn mx) i j) 1 i j j l [] (by decide) (Yk a.1 ⟨a,Nw a.2.1 _ (.inr (by decide))⟩) h (.done j j);rw[ud]at this;exact this
theorem zt1(h:i<k):Lg u b i k↔Lg u (.az b 0 1) i k:=by
 rw[wQ];constructor
 ·intro a;exact⟨a.2.1,1,by omega,.inr (by decide),k,a,rfl⟩
 ·rintro ⟨_,n,_,h2,h3⟩;obtain rfl|rfl:n=0\/n=1:=by omega
  ·exact absurd (show i=k from h3) (by omega)
  ·obtain⟨m,h4,h5⟩:=h3;obtain rfl:m=k:=h5;exact h4
theorem zoX{lI fe mn:Int}(h1:gT lI fe=true)(h2:gT mn mx=true):ij (.az b 0 (if fe<=mx then fe else mx)) (.az (.az b lI fe) mn mx):=by
 refine⟨λu=>zfT h1 h2 u,λu i j l a h=>?_⟩;have hw:=λu=>zfT (b:=b) h1 h2 u
 unfold gT at h1 h2;simp only[lx]at h1 h2;obtain⟨rfl,h1⟩:=h1;obtain⟨rfl,h2⟩:=h2;rcases h2 with rfl|rfl
 ·
  have e:(if fe<=1 then fe else 1)=fe:=aC (by omega);rw[e]at h a;exact zmx (by decide) a h rfl
 ·rcases h1 with rfl|rfl
  ·rw[ak (by decide)]at h a hw;clear a;replace h:ii (Lg u b) (Pl u b) (λmn mx i j=>Lg u (.az b mn mx) i j) (Int.toNat 0) (-1) i j l:=h;show ii (Lg u (.az b 0 1)) (Pl u (.az b 0 1)) (λmn mx i j=>Lg u (.az (.az b 0 1) mn mx) i j) (Int.toNat 0) (-1) i j l;have e0:Int.toNat 0=0:=rfl;rw[e0]at h ⊢;generalize hn:(0:Nat)=n at h;generalize hm:(-1:Int)=m at h
   induction h with
   |done i j=>exact absurd hm (by decide)
   |pA i=>exact .pA i
   |out mx i j hp _=>omega
   |must mn mx i j k l1 l2 g h1 h2 ih=>omega
   |may mx i j k l1 l2 hp g h1 h2 ih=>omega
   |more i j k l1 l2 hi g h1 h2 ih=>
    have ih:=ih rfl rfl;have IC:i<k:=g.1;refine .more i j k l1 l2 hi (g.congr λm a _=>and_congr (zt1 (by omega)) (tW hw)) ?_ ih;exact zmx (by decide) g.2.2.1.1 h1 rfl
  ·rw[aC (by decide)]at h a;show ii (Lg u (.az b 0 (-1))) (Pl u (.az b 0 (-1))) (λmn mx i j=>Lg u (.az (.az b 0 (-1)) mn mx) i j) 0 (-1) i j l;rcases ig i j with dL|dL
   ·have:=ii.more (L:=Lg u (.az b 0 (-1))) (R:=Pl u (.az b 0 (-1))) (C:=λmn mx i j=>Lg u (.az (.az b 0 (-1)) mn mx) i j) i j j l [] dL (Yk dL ⟨a,Nw a.2.1 _ (.inl rfl)⟩) h (.pA j);rw[ud]at this;exact this
   ·obtain rfl:i=j:=by have:=a.1;omega
    clear a;replace h:ii (Lg u b) (Pl u b) (λmn mx i j=>Lg u (.az b mn mx) i j) 0 (-1) i i l:=h;generalize hn:(0:Nat)=n at h;generalize hm:(-1:Int)=m at h;cases h with
    |done=>exact absurd hm (by decide)
    |pA=>exact .pA i
    |out _ _ _ hp=>omega
    |must=>omega
    |may _ _ _ _ _ _ hp=>omega
    |more _ _ _ _ _ hi=>omega
end
section
variable {w wr w5:ze}{v l r:zd}{p t1 t2:Pt}{a b:Int}{g n cap B:Nat}{xs:List zd}
theorem je(h:aU w v p):∃t x,v=.iface t x:=by
 cases p with
 |set f=>obtain⟨_,rfl,_⟩:=h;exact⟨_,_,rfl⟩
 |seq l r=>obtain⟨_,_,rfl,_⟩:=h;exact⟨_,_,rfl⟩
 |aN l r=>obtain⟨_,_,rfl,_⟩:=h;exact⟨_,_,rfl⟩
 |az b m n=>obtain⟨_,rfl,_⟩:=h;exact⟨_,_,rfl⟩
 |aT b g=>obtain⟨_,rfl,_⟩:=h;exact⟨_,_,rfl⟩
theorem iP:∀(p:Pt) (v:zd),aU w v p->1<=aE p/\aE p<=2001
 |.set _,_,_=>by simp[aE]
 |.seq l r,_,⟨_,_,_,h1,h2⟩=>BM (by have:=iP l _ h1;have:=iP r _ h2;omega)
 |.aN l r,_,⟨_,_,_,h1,h2⟩=>BM (by have:=iP l _ h1;have:=iP r _ h2;omega)
 |.az b mn mx,_,⟨_,_,h1,h2⟩=>by
  have h3:=iP b _ h1;have hc:=FY h2;exact BM (Int.mul_le_mul h3.1 hc.1 (by omega) (by omega) |> λh=>by simpa using h)
 |.aT b _,_,⟨_,_,h1⟩=>iP b _ h1
def SR(w:ze)(p:Pt)(mn mx:Int)(e:Ending)(w':ze):Prop:=
 ∃t x p',e=.returned (.iface t x)/\aU w' (.iface t x) p'/\aE p'=cM (aE p*ed mn mx)/\ij p' (.az p mn mx)/\zg w.heap.size w w'
theorem zi1(v:zd)(p:Pt)(mn mx:Int)(w:ze)(hT:aU w v p)(dV:fj mn mx=true):
  zi prog 178 #[v,zb .i64 mn,zb .i64 mx] w λe w'=>SR w p mn mx e w':=by
 have tO:=iP p v hT
 by_cases h1:mn=1/\mx=1
 ·obtain⟨rfl,rfl⟩:=h1;obtain⟨t,x,rfl⟩:=je hT;exact(zkg _ w t x rfl).mono λe w' h=>⟨t,x,p,h.1,aU.keep (.of h.2) p _ hT,by rw[show ed 1 1=1 from rfl,Int.mul_one,Gj tO.2],zs2 p,h.2⟩
 ·have qM:∀t x,FQ t x->v=.iface t x->zi prog 178 #[v,zb .i64 mn,zb .i64 mx] w λe w'=>SR w p mn mx e w':=by
   intro t x ho hv;subst hv;exact(zhz t x ho mn mx w h1).mono λe w' h=>⟨_,_,.az p mn mx,h.1,⟨_,rfl,aU.keep (.of h.2) p _ hT,dV⟩,rfl,ij.refl _,h.2⟩
  cases p with
  |set f=>obtain⟨_,e,_⟩:=hT;exact qM _ _ (zpK _) e
  |seq l r=>obtain⟨_,_,e,_⟩:=hT;exact qM _ _ (zpJ _) e
  |aN l r=>obtain⟨_,_,e,_⟩:=hT;exact qM _ _ (zpH _) e
  |aT b g=>obtain⟨_,e,_⟩:=hT;exact qM _ _ (zpI _) e
  |az b lI fe=>
   clear qM;have lU:=hT;obtain⟨l,rfl,hl,hb⟩:=hT;obtain⟨t,x,rfl⟩:=je hl;have ae:=(iP b _ hl).2;refine(zkh t x lI fe mn mx w h1).mono λe w' h=>?_
   by_cases hc:gT lI fe=true/\gT mn mx=true
   ·rw[aC hc]at h;refine⟨_,_,.az b 0 (if fe<=mx then fe else mx),h.1,⟨_,rfl,aU.keep (.of h.2) b _ hl,zjV (XF hc.1 hc.2)⟩,?_,zoX hc.1 hc.2,h.2⟩;show cM (aE b*ed 0 _)=cM (cM (aE b*ed lI fe)*ed mn mx);rw[WM hc.1,WM hc.2,WM (XF hc.1 hc.2),Int.mul_one,Int.mul_one,Gj ae,Gj ae]
   ·rw[ak hc]at h;exact⟨_,_,.az (.az b lI fe) mn mx,h.1,⟨_,rfl,aU.keep (.of h.2) _ _ lU,dV⟩,rfl,ij.refl _,h.2⟩
theorem zpg(sv l:zd)(p:Pt)(mn mx:Int)(g o c:Nat)(w:ze)(c0:w.cell? ⟨g,o,zc⟩=za l)(hp:aU w l p)(dV:fj mn mx=true):
  zi prog 157 #[zl #[zb .i64 4,sv,zb .i64 mn,zb .i64 mx,zb .i64 0],zk (za ⟨g,o,zc⟩) 1 c] w λe w'=>SR w p mn mx e w':=by
 have hg:g<w.heap.size:=block_lt_of_cell c0;have hR:=λ(W:ze) (hb:zg w.heap.size w W)=>zi1 l p mn mx W (aU.keep (.of hb) p l hp) dV
 have af:zg w.heap.size w (w.alloc (zh #[zb .i64 4,sv,zb .i64 mn,zb .i64 mx,zb .i64 0] 149)).drew:=(aw).drew;clear hp dV
 go_enter func157,ntmps157
 go_wp2
 go_region_held3 (λw'=>w'.cell? ⟨g,o,zc⟩=za l/\w'.cell? ⟨w.heap.size,2,zc⟩=za (zb .i64 mn)/\w'.cell? ⟨w.heap.size,3,zc⟩=za (zb .i64 mx)) ((first|go_keep|exact⟨(ae.cell (by simp;omega)).trans ((World.cell?_of_block (Below.heap_alloc _ _ _ hg)).trans c0),(ae.cell (by simp)).trans (by simp),(ae.cell (by simp)).trans (by simp)⟩)) ((go_at_call 178;refine(hR _ af).mono ?_;rintro e w2 ⟨t,x,p2,rfl,iW,gA,uM,ae⟩))
 go_wp2;go_ret;exact⟨t,x,p2,rfl,iW,gA,uM,aq af af.size ae⟩
def mJ(w:ze)(v:zd)(t0:Pt)(wt:Int):Prop:=∃p,aU w v p/\aE p=wt/\ij p t0
theorem mJ.keep{w':ze}{t0:Pt}{wt:Int}(h:mJ w v t0 wt)(hk:bJ w w'):mJ w' v t0 wt:=by
 obtain⟨p,h1,h2⟩:=h;exact⟨p,aU.keep hk p v h1,h2⟩
theorem zrd(h1:mJ w l t1 a)(h2:mJ w r t2 b):mJ w (.iface 256 (zl #[l,r])) (.seq t1 t2) (cM (a+b)):=by
 obtain⟨p,hp,rfl,hi⟩:=h1;obtain⟨q,hq,rfl,hj⟩:=h2;exact⟨.seq p q,⟨l,r,rfl,hp,hq⟩,rfl,zs4 hi hj⟩
theorem zra(h1:mJ w l t1 a)(h2:mJ w r t2 b):mJ w (.iface 258 (zl #[l,r])) (.aN t1 t2) (cM (a+b)):=by
 obtain⟨p,hp,rfl,hi⟩:=h1;obtain⟨q,hq,rfl,hj⟩:=h2;exact⟨.aN p q,⟨l,r,rfl,hp,hq⟩,rfl,zs0 hi hj⟩
theorem zrb{g:Int}(h1:mJ w l t1 a):mJ w (.iface 264 (zl #[l,zb .i64 g])) (.aT t1 g) a:=by
 obtain⟨p,hp,rfl,hi⟩:=h1;exact⟨.aT p g,⟨l,rfl,hp⟩,rfl,zs1 hi g⟩
theorem zrc{p':Pt}{mn mx:Int}(hw:aE p=a)(hi:ij p t1)(h:aU w v p')(h2:aE p'=cM (aE p*ed mn mx))(h3:ij p' (.az p mn mx)):mJ w v (.az t1 mn mx) (cM (a*ed mn mx)):=
 ⟨p',h,by rw[h2,hw],h3.trans (zs3 hi mn mx)⟩
theorem zgJ(c:Nat):∀(rs:List (Int×Int)) (f:Nat->Bool),(rs.foldl (λf r=>Gp f r.1 r.2) f) c=(f c || jE rs c)
 |[],f=>by simp[jE]
 |r::rs,f=>by
  rw[List.foldl_cons,zgJ c rs];simp[Gp,jE,Bool.or_assoc]
theorem znz(rs:List (Int×Int))(c:Nat):vq rs c=jE rs c:=by
 unfold vq;rw[zgJ]
 rfl
theorem zre{mg:Nat}{rs:List (Int×Int)}(h:w.heap[mg]?=za (zh (dz (vq rs)) 293 (0,0))):mJ w (.iface 297 (zl #[zm (za ⟨mg,0,zc⟩)])) (.set (jE rs)) 1:=
 ⟨.set (vq rs),⟨mg,rfl,h⟩,rfl,by rw[show vq rs=jE rs from funext λc=>znz rs c];exact ij.refl _⟩
def sk(w:ze)(xs:List zd)(st:List Int)(ts:List Pt):Prop:=xs.length=st.length/\(∀j,j<st.length->∃t x,xs[j]?=za (.iface t x)/\mJ w (.iface t x) (ts.getD j ju) (st.getD j 0))/\ts.length=st.length
theorem Q8{base:Nat}{e:zn}{sz:Nat}(h:w.ownsRow base e sz (zk (za ⟨g,0,zc⟩) n cap) n xs):∃ax,w.heap[g]?=za (zh ax e (0,0)):=by
 rcases h.2 with ⟨h0,_⟩|⟨g',cap',ax,hv,_,hh,_⟩
 ·cases h0
 ·cases hv;exact⟨ax,hh⟩
theorem zjN{w4:ze}(hw:zg wr.heap.size wr w4)(aB:w4.ownsRow B 184 1 (zk (za ⟨g,0,zc⟩) n cap) n xs)(hg:w4.grownBy w5 (za g)):bJ wr w5:=by
 obtain⟨ax,hr⟩:=Q8 aB;exact(bJ.of hw).trans (bJ.grown hg hr (by decide))
theorem tn1(rs:List (Int×Int))(ops:List Pt):iG ⟨1,rs,0,0,0⟩ ops=.set (jE rs):=rfl
theorem tn2(ops:List Pt):iG ⟨2,[],0,0,0⟩ ops=.seq (ops.getD 0 ju) (ops.getD 1 ju):=rfl
theorem tn3(ops:List Pt):iG ⟨3,[],0,0,0⟩ ops=.aN (ops.getD 0 ju) (ops.getD 1 ju):=rfl
theorem tn4(mn mx:Int)(ops:List Pt):iG ⟨4,[],mn,mx,0⟩ ops=.az (ops.getD 0 ju) mn mx:=rfl
theorem tn5(g:Int)(ops:List Pt):iG ⟨5,[],0,0,g⟩ ops=.aT (ops.getD 0 ju) g:=rfl
theorem wn1(rs:List (Int×Int))(ops:List Int):oI ⟨1,rs,0,0,0⟩ ops=1:=rfl
theorem wn2(ops:List Int):oI ⟨2,[],0,0,0⟩ ops=cM (ops.getD 0 0+ops.getD 1 0):=rfl
theorem wn3(ops:List Int):oI ⟨3,[],0,0,0⟩ ops=cM (ops.getD 0 0+ops.getD 1 0):=rfl
theorem wn4(mn mx:Int)(ops:List Int):oI ⟨4,[],mn,mx,0⟩ ops=cM (ops.getD 0 0*ed mn mx):=rfl
theorem wn5(g:Int)(ops:List Int):oI ⟨5,[],0,0,g⟩ ops=ops.getD 0 0:=rfl
theorem Js(ts:List Pt)(m:Nat):(ts.drop m).getD 0 ju=ts.getD m ju/\(ts.drop m).getD 1 ju=ts.getD (m+1) ju:=by
 simp[List.getD_eq_getElem?_getD,List.getElem?_drop]
theorem znw{ns:List aL}{k m ar:Nat}{st:List Int}{nd:aL}{t:zn}{x:zd}{g' cap':Nat}(hst:st.length=m+ar)(eu:bC nd.kind=ar)(ha:oI nd (st.drop m)=a)
  (j8:sk wr xs st (iL ns k)) (hk:bJ wr w5) (hn:ns.getD k .zero=nd) (hp:mJ w5 (.iface t x) (iG nd ((iL ns k).drop m)) a)
  (xF:st.length<=k) (qb:w5.ownsRow B 184 1 (zk (za ⟨g',0,zc⟩) (m+1) cap') (m+1) (xs.take m++[.iface t x])) (HS:mG ns []=mG (ns.drop k) st) (HD:mG (ns.drop k) st=mG (ns.drop (k+1)) (yz st nd)):
  ∃(tU:List Int) (xs':List zd),m+1=tU.length/\w5.ownsRow B 184 1 (zk (za ⟨g',0,zc⟩) tU.length cap') tU.length xs'/\sk w5 xs' tU (iL ns (k+1))/\tU.length<=k+1/\zf (mG ns []=mG (ns.drop (k+1)) tU):=by
 have hw:yz st nd=st.take m++[a]:=by
  unfold yz;rw[eu,hst,D8,ha]
 have hl:(st.take m++[a]).length=m+1:=by simp;omega
 have pw:iL ns (k+1)=(iL ns k).take m++[iG nd ((iL ns k).drop m)]:=by
  rw[iL,hn,Rz,eu,j8.2.2,hst,D8]
 have Bm:=j8.1;have hlt:=j8.2.2;refine⟨st.take m++[a],xs.take m++[.iface t x],hl.symm,by rw[hl];exact qb,⟨by simp;omega,λj hj=>?_,by rw[pw];simp;omega⟩,by omega,?_⟩
 ·rw[hl]at hj;rw[pw]
  by_cases e:j=m
  ·subst e;refine⟨t,x,?_,?_⟩
   ·rw[sJ (by simp;omega)];rw[List.length_take,JV (by omega),Aa];rfl
   ·have e1:(st.take j++[a]).getD j 0=a:=by
     rw[bP,sJ (by simp;omega)];simp[Nat.min_eq_left (show j<=st.length by omega)]
    have e2:((iL ns k).take j++[iG nd ((iL ns k).drop j)]).getD j ju=iG nd ((iL ns k).drop j):=by
     rw[bP,sJ (by simp;omega)];simp[Nat.min_eq_left (show j<=(iL ns k).length by omega)]
    rw[e1,e2];exact hp
  ·obtain⟨t',x',h1,h2⟩:=j8.2.1 j (by omega);refine⟨t',x',?_,?_⟩
   ·rw[pH (by simp;omega),B3,aC (by omega)];exact h1
   ·have e1:(st.take m++[a]).getD j 0=st.getD j 0:=by
     rw[bP,pH (by simp;omega),B3,aC (by omega),bP]
    have e2:((iL ns k).take m++[iG nd ((iL ns k).drop m)]).getD j ju=(iL ns k).getD j ju:=by
     rw[bP,pH (by simp;omega),B3,aC (by omega),bP]
    rw[e1,e2];exact h2.keep hk
 ·show _=_;rw[HS,HD,hw]
end
variable {lo:Nat}
theorem zqq(ns:List aL)(gz:0<ns.length)(h:(iL ns ns.length).length=1):(iL ns ns.length).getD 0 ju=a8 ns (ns.length-1):=by
 obtain⟨m,hm⟩:∃m,ns.length=m+1:=⟨ns.length-1,by omega⟩;rw[hm]at h ⊢;rw[iL,Rz]at h ⊢
 match hq:(iL ns m).take ((iL ns m).length-bC (ns.getD m .zero).kind),h with
 |[],_=>rfl
 |_::_,h=>simp at h
theorem zrg{kd mn mx gr:Int}{rs:List (Int×Int)}(lG:aY ⟨kd,rs,mn,mx,gr⟩=true)(sv tv:zd)(g m:Nat)(w:ze)(ts:List Pt)(ws:List Int)(Fk:dR lo w sv rs)(htv:bC kd=0\/∃c,tv=zk (za ⟨g,m,zc⟩) (bC kd) c)(hc:∀j,j<bC kd->∃t x,w.cell? ⟨g,m+j,zc⟩=za (.iface t x)/\mJ w (.iface t x) (ts.getD (m+j) ju) (ws.getD (m+j) 0)):
  zi prog 157 #[zl #[zb .i64 kd,sv,zb .i64 mn,zb .i64 mx,zb .i64 gr],tv] w λe w'=>∃t x,e=.returned (.iface t x)/\mJ w' (.iface t x) (iG ⟨kd,rs,mn,mx,gr⟩ (ts.drop m)) (oI ⟨kd,rs,mn,mx,gr⟩ (ws.drop m))/\zg w.heap.size w w':=by
 rcases XI lG with rfl|rfl|rfl|rfl|rfl
 ·obtain⟨hr,rfl,rfl,rfl⟩:=zrE lG;refine(zrj _ _ _ _ Fk hr).mono ?_;rintro e w' ⟨mg,rfl,_,hm,hb⟩;exact⟨_,_,rfl,by rw[tn1,wn1];exact zre hm,hb⟩
 all_goals
  rcases htv with h|⟨c,rfl⟩
  ·exact absurd h (by decide)
  obtain⟨t0,x0,c0,p0⟩:=hc 0 (by decide)
 ·obtain⟨rfl,rfl,rfl,rfl⟩:=zmv lG (.inl rfl);obtain⟨t1,x1,c1,p1⟩:=hc 1 (by decide);refine(zri _ _ _ _ _ g m c w c0 c1).mono ?_;rintro e w' ⟨rfl,hb⟩;exact⟨_,_,rfl,by rw[tn2,wn2,(Jy ws m).1,(Jy ws m).2,(Js _ m).1,(Js _ m).2];exact zrd (p0.keep (.of hb)) (p1.keep (.of hb)),hb⟩
 ·obtain⟨rfl,rfl,rfl,rfl⟩:=zmv lG (.inr rfl);obtain⟨t1,x1,c1,p1⟩:=hc 1 (by decide);refine(zrf _ _ _ _ _ g m c w c0 c1).mono ?_;rintro e w' ⟨rfl,hb⟩;exact⟨_,_,rfl,by rw[tn3,wn3,(Jy ws m).1,(Jy ws m).2,(Js _ m).1,(Js _ m).2];exact zra (p0.keep (.of hb)) (p1.keep (.of hb)),hb⟩
 ·obtain⟨rfl,dV,rfl⟩:=XH lG;obtain⟨q,hq,hw,hi⟩:=p0;refine(zpg _ _ q mn mx g m c w c0 hq dV).mono ?_;rintro e w4 ⟨t4,x4,p4,rfl,L8,Bz,Uz,bE⟩;exact⟨_,_,rfl,by rw[tn4,wn4,QJ,(Js _ m).1];exact zrc hw hi L8 Bz Uz,bE⟩
 ·obtain⟨rfl,rfl,rfl⟩:=zpC lG;refine(zrh _ _ _ _ g m c w c0).mono ?_;rintro e w' ⟨rfl,hb⟩;exact⟨_,_,rfl,by rw[tn5,wn5,QJ,(Js _ m).1];exact zrb (p0.keep (.of hb)),hb⟩
theorem zrr(v:zd)(ns:List aL)(w:ze)(hs:dZ lo w v ns)(hn:ns.length<=1048576):
  zi prog 138 #[v] w λe w'=>zg w.heap.size w w'/\((tZ ns=zc/\e=.returned (.tuple #[.nilIface,.bool false]))\/∃wt t x,tZ ns=za wt/\e=.returned (.tuple #[.iface t x,.bool true])/\mJ w' (.iface t x) (a8 ns (ns.length-1)) wt):=by
 obtain⟨ao,cap,rfl,hm,hc⟩:=hs;obtain⟨i0,hi,bI,aO,aQ⟩:=info_parts Tryz.zxT
 go_enter func138,ntmps138
 go_wp2
 go_loopw [4,12] (λs i wr=>∃(k:Nat) (st:List Int) (g sc:Nat) (xs:List zd),k<=ns.length/\i=zb .i64 k/\s=zk (za ⟨g,0,zc⟩) st.length sc/\zg w.heap.size w wr/\wr.ownsRow w.heap.size 184 1 (zk (za ⟨g,0,zc⟩) st.length sc) st.length xs/\sk wr xs st (iL ns k)/\st.length<=k/\zf (mG ns []=mG (ns.drop k) st))
  (λ_ i _=>ns.length-(intOf i).toNat)
 case atStart=>exact⟨0,[],_,_,[],aR _,rfl,rfl,aw,zgR _ _,⟨rfl,λj hj=>absurd hj (cR _),rfl⟩,aj _,rfl⟩
 case round=>
  obtain⟨k,st,g,sc,xs,hk,rfl,rfl,hb,aB,j8,xF,HS⟩:=hrel;obtain⟨Iv,fD,hdc,qH⟩:=qn aB;unfold maxLen at qH
  by_cases hlt:k<ns.length
  ·obtain⟨b,o,sv,nd,rfl,Hn,aZ,c0,c1,c2,c3,c4,dr⟩:=hc.elem hb hlt;have HD:zf _:=zhP ns k hlt st nd Hn.out;obtain⟨kd,rs,mn,mx,gr⟩:=nd;simp only at c0 c2 c3 c4 dr;obtain⟨bZ,cd,rfl,hsm,jJ⟩:=dr;have hz:=hb.size;have bQ:zg w.heap.size w (wr.alloc (zh #[zb .i64 kd,.slice bZ rs.length cd,zb .i64 mn,zb .i64 mx,zb .i64 gr] 149)):=hb.alloc hz _;have IZ:dR lo (wr.alloc (zh #[zb .i64 kd,.slice bZ rs.length cd,zb .i64 mn,zb .i64 mx,zb .i64 gr] 149)) (.slice bZ rs.length cd) rs:=dR.below ⟨_,_,rfl,hsm,jJ⟩ (aw);have pS:=zl8 kd
   by_cases eu:st.length<bC kd
   ·have ky:(st.length:Int)-(bC kd:Int)<0:=by omega
    go_wp2_with (go_at_call 155;refine(WX _ _).mono ?_;rintro e w2 ⟨rfl,rfl⟩)
    go_ret2
    exact⟨bQ,.inl ⟨by unfold tZ;rw[HS.out,HD.out,aC (.inl eu)],rfl⟩⟩
   have Bq:¬((st.length:Int)-(bC kd:Int)<0):=by omega
   by_cases iV:aY ⟨kd,rs,mn,mx,gr⟩=false
   ·go_wp2_with (first|(go_at_call 155;refine(WX _ _).mono ?_;rintro e w2 ⟨rfl,rfl⟩)|(go_at_call 156;refine(zgu _ _ _ _ _ _ _ IZ).mono ?_;rintro e w3 ⟨rfl,aG⟩))
    go_ret2
    exact⟨aq bQ bQ.size aG,.inl ⟨by unfold tZ;rw[HS.out,HD.out,aC (.inr iV)],rfl⟩⟩
   have lG:aY ⟨kd,rs,mn,mx,gr⟩=true:=by simpa using iV
   clear iV;have HD2:zf (mG (ns.drop k) st=mG (ns.drop (k+1)) (yz st ⟨kd,rs,mn,mx,gr⟩)):=by show _=_;rw[HD.out,ak (by rintro (h|h);exact eu h;rw[h]at lG;cases lG)]
   clear HD;obtain⟨ar,hA⟩:∃ar,bC kd=ar:=⟨_,rfl⟩;have HA:zf (bC kd=ar):=hA;rw[hA]at Bq eu pS;obtain⟨m,dG⟩:∃m,st.length=m+ar:=⟨st.length-ar,by omega⟩;have HM:zf _:=dG;rw[dG]at aB hdc xF ⊢;clear dG Bq eu;have i1:(0:Int)<=(m:Int):=by omega
   have i2:(m:Int)<=((m+ar:Nat):Int):=by omega
   have i2':(m:Int)<=(m:Int)+(ar:Int):=by omega
   have i3:((m+ar:Nat):Int)<=(sc:Int):=by omega
   have i4:(m:Int)+(ar:Int)<=(sc:Int):=by omega
   have i5:(m:Int)<=(sc:Int):=by omega
   rcases(show (m=sc/\ar=0)\/¬sc=m by omega) with ⟨rfl,rfl⟩|i6
   all_goals
    go_wp2_with (first|(go_at_call 155;refine(WX _ _).mono ?_;rintro e w2 ⟨rfl,rfl⟩;rw[hA])|(go_at_call 156;refine(zgu _ _ _ _ _ _ _ IZ).mono ?_;rintro e w3 ⟨rfl,aG⟩))
    have L6:=dQ (aB.alloc _) aG;have VH:=aG.size;have Mn:wr.heap.size<w3.heap.size:=bA (by simp) VH;have qF:=aq bQ bQ.size aG;have qE:=aq (aw) (by simp) aG;have HC:zf (∀j,j<bC kd->∃t x,w3.drew.cell? ⟨g,m+j,zc⟩=za (.iface t x)/\mJ w3.drew (.iface t x) ((iL ns k).getD (m+j) ju) (st.getD (m+j) 0)):=λj hj=>by
     rw[HA.out]at hj;obtain⟨t,x,hx,hp⟩:=j8.2.1 (m+j) (by have:=HM.out;omega);exact⟨t,x,(L6.cellAt (m+j) (by omega)).trans hx,hp.keep (.of qE.drew)⟩
    have e0:w3.cell? ⟨wr.heap.size,0,zc⟩=za (zb .i64 kd):=(aG.cell (by simp)).trans (by simp);have e1:w3.cell? ⟨wr.heap.size,1,zc⟩=za (.slice bZ rs.length cd):=(aG.cell (by simp)).trans (by simp);have e2:w3.cell? ⟨wr.heap.size,2,zc⟩=za (zb .i64 mn):=(aG.cell (by simp)).trans (by simp);have e3:w3.cell? ⟨wr.heap.size,3,zc⟩=za (zb .i64 mx):=(aG.cell (by simp)).trans (by simp);have e4:w3.cell? ⟨wr.heap.size,4,zc⟩=za (zb .i64 gr):=(aG.cell (by simp)).trans (by simp);have uS:dR lo w3.drew (.slice bZ rs.length cd) rs:=IZ.below aG.drew
    go_region_held3 (λw'=>w'.cell? ⟨wr.heap.size,0,zc⟩=za (zb .i64 kd)/\w'.cell? ⟨wr.heap.size,1,zc⟩=za (.slice bZ rs.length cd)/\w'.cell? ⟨wr.heap.size,2,zc⟩=za (zb .i64 mn)/\w'.cell? ⟨wr.heap.size,3,zc⟩=za (zb .i64 mx)/\w'.cell? ⟨wr.heap.size,4,zc⟩=za (zb .i64 gr)) ((first|go_keep|exact⟨(bE.cell (by exact Mn)).trans e0,(bE.cell (by exact Mn)).trans e1,(bE.cell (by exact Mn)).trans e2,(bE.cell (by exact Mn)).trans e3,(bE.cell (by exact Mn)).trans e4⟩)) ((go_at_call 157;refine(zrg lG _ _ g m _ _ _ uS ?htv HC.out).mono ?_;(case htv=>rw[HA.out];first|exact .inl rfl|exact .inr ⟨_,rfl⟩);rintro e w4 ⟨t4,x4,rfl,hJ,bE⟩))
    have U6:=Qv (dQ (w:=w3.drew) L6 bE) (Nat.le_add_right m _);have C6:=aq qF.drew qF.size bE
    go_wp2_with (refine wL w4 rfl (.tmp 36) (.tmp 38) 155 rfl w.heap.size 184 i0 _ 16 underlying155 hi bI aO aQ rfl g _ m (xs.take m) _ rfl U6 rfl rfl (by omega) (by omega) C6.size ?_;intro g' cap' w5 qb vX dF)
    go_roundw
    case rel=>
     obtain⟨tU,xs',hl,h1,h2,h3,h4⟩:=znw HM.out HA.out rfl j8 (zjN (aq qE.drew qE.size bE) U6 vX) Hn.out (hJ.keep (zjN (Below.refl _ _) U6 vX)) (by have:=HM.out;omega) qb HS.out HD2.out;exact⟨k+1,tU,g',cap',xs',by omega,by go_num,by rw[hl],C6.grown vX C6.size (by intro q hq;cases hq;exact Iv),h1,h2,h3,h4⟩
    case measure=>simp[intOf];omega
  ·have bK:k=ns.length:=by omega
   have HF:zf (mG ns []=za st):=by show _=_;rw[HS.out,sI (by omega)];rfl
   by_cases rV:st.length=1
   ·obtain⟨t0,x0,j9,mR⟩:=j8.2.1 0 (by omega);rw[rV]at aB ⊢;have q0:wr.cell? ⟨g,0,zc⟩=za (.iface t0 x0):=(aB.cellAt 0 (by omega)).trans j9;have Km:zf _:=rV;have Zl:zf ((iL ns k).length=1):=by show _=_;rw[j8.2.2];exact Km.out
    clear rV j9;go_wp2
    go_ret2
    refine⟨hb,.inr ⟨st.getD 0 0,t0,x0,?_,rfl,?_⟩⟩
    rotate_left
    ·rw[bK]at mR Zl;rw[zqq ns (by have:=Km.out;omega) Zl.out]at mR;exact mR
    unfold tZ;rw[HF.out]
    match st,Km.out with
    |[a],_=>rfl
   ·have hne:(((st.length:Nat):Int) != 1)=true:=by rw[bne_iff_ne];omega
    have Km:zf _:=rV;clear rV;go_wp2
    go_ret2
    refine⟨hb,.inl ⟨?_,rfl⟩⟩;unfold tZ;rw[HF.out]
    match st,Km.out with
    |[],_=>rfl
    |[a],h=>exact absurd rfl h
    |_::_::_,_=>rfl
end Go.Proofs.YtdimhpfiieepiaaGreatDoor
