import Derived.Test.YthdljcdbfmhleaaGreatDoorC23
import Derived.Deep.RegionHeld3
namespace Go.Proofs.YthdljcdbfmhleaaGreatDoor
set_option maxHeartbeats 1000000
set_option maxRecDepth 100000
section
open Go.RowKit
attribute [local go_sem ↓] Go.wp_at_zero Go.wp_at_succ
def FgP(w:World)(s:Nat)(v:StV)(w':World):Prop:=
 ∃(a b:RdV) (O1 O2:Nat->Prop),Strd O1 O2 w' s v a b/\a.m=1/\b.m=1/\(∀k,O1 k\/O2 k->w.heap.size<=k)/\zan (· = s) w w'
theorem zh2(s:Nat)(v:StV)(x y:Value)(w:World)(hbox:w.heap[s]?=some (.cells (zhB v x y) 177 (0,0)))(hC:StdC w s v):
  Calls Tryz.prog 86 #[.pointer (some ⟨s,0,none⟩)] w fun e w'=>e=.returned (.tuple #[])/\FgP w s v w':=by
 obtain⟨c0,c1,c2,c3,c4,c5,c6⟩:=zaG hbox;have f5:=zso _ _ 5 _ _ hbox;obtain⟨t0,t1,t2,-⟩:=zac hC.c1.box;have hsl:s<w.heap.size:=(zrc.1 hbox).1;have hn1:=zeT v.nw v.bt v.ga v.gl v.n v.fc v.fa v.sv (.slice v.fa v.n v.fc) v.L w.drew hC.c1.box ⟨hC.c1.pl.1.row,hC.c1.pl.1.lt⟩ hC.c1.nwl;have hn2:∀(w1:World),Below w.drew.heap.size w.drew w1->∀(r1:Nat),Calls Tryz.prog 104 #[.pointer (some ⟨v.bt,0,none⟩),.slice v.ba v.n v.bc,.slice (some ⟨v.gl,0,none⟩) v.nw v.nw,.slice (some ⟨v.ga,0,none⟩) v.nw v.nw] (w1.setCell ⟨s,5,none⟩ (.pointer (some ⟨r1,0,none⟩))).drew fun e w2=>NewP (w1.setCell ⟨s,5,none⟩ (.pointer (some ⟨r1,0,none⟩))).drew v.nw v.bt v.gl v.ga (.slice v.ba v.n v.bc) v.A e w2:=fun w1 hb r1=>by
  have hk:∀k,k<w.heap.size->k≠s->(w1.setCell ⟨s,5,none⟩ (.pointer (some ⟨r1,0,none⟩))).heap[k]?=w.heap[k]?:=fun k h1 h2=>by
   rw[zsq _ _ _ _ (show k≠s from h2)];exact hb.block k h1
  have hle:=hC.c1.le;have h1:=hC.c1.btB;have h2:=hC.c1.pa.2;exact zeT v.nw v.bt v.gl v.ga v.n v.bc v.ba v.sv (.slice v.fa v.n v.fc) v.A _ ((hk v.bt (by omega) hC.ne.1).trans hC.c1.box) ⟨(hk v.ga (by omega) hC.ne.2.1).trans hC.c1.pa.1.row,hC.c1.pa.1.lt⟩ hC.c1.nwl
 have Hfin:Hid (∀w1 r1 gm1 gv1 sS1 sP1 gx1 Ts1,Below w.drew.heap.size w.drew w1->RdS (fun k=>w.heap.size<=k/\k<w1.heap.size) w1 r1 v.nw v.bt v.ga v.gl (.slice v.fa v.n v.fc) v.L gm1 gv1 sS1 sP1 gx1 Ts1 1 []->(∀x,x<v.nw->Ts1 0 x=0)->
   ∀w2 r2 gm2 gv2 sS2 sP2 gx2 Ts2,Below w1.heap.size (w1.setCell ⟨s,5,none⟩ (.pointer (some ⟨r1,0,none⟩))).drew w2->RdS (fun k=>w1.heap.size<=k/\k<w2.heap.size) w2 r2 v.nw v.bt v.gl v.ga (.slice v.ba v.n v.bc) v.A gm2 gv2 sS2 sP2 gx2 Ts2 1 []->(∀x,x<v.nw->Ts2 0 x=0)->
   FgP w s v (w2.setCell ⟨s,6,none⟩ (.pointer (some ⟨r2,0,none⟩)))):=by
  intro w1 r1 gm1 gv1 sS1 sP1 gx1 Ts1 hb1 hR1 hz1 w2 r2 gm2 gv2 sS2 sP2 gx2 Ts2 hb2 hR2 hz2;have s1:w.heap.size<=w1.heap.size:=hb1.size;have s2:w1.heap.size<=w2.heap.size:=by simpa using hb2.size
  have o1:∀k,k≠s->k<w1.heap.size->w2.heap[k]?=w1.heap[k]?:=fun k h1 h2=>(hb2.block k h2).trans (by show (w1.setCell _ _).heap[k]?=_;exact zsq _ _ _ _ (show k≠s from h1))
  have o2:∀k,k≠s->(w2.setCell ⟨s,6,none⟩ (.pointer (some ⟨r2,0,none⟩))).heap[k]?=w2.heap[k]?:=fun k h1=>zsq _ _ _ _ (show k≠s from h1)
  have oo:∀k,k≠s->k<w.heap.size->(w2.setCell ⟨s,6,none⟩ (.pointer (some ⟨r2,0,none⟩))).heap[k]?=w.heap[k]?:=fun k h1 h2=>(o2 k h1).trans ((o1 k h1 (by omega)).trans (hb1.block k h2))
  have b1:w1.heap[s]?=some (.cells (zhB v x y) 177 (0,0)):=(hb1.block s hsl).trans hbox;have b2:=zsr w1 s 5 _ _ (.pointer (some ⟨r1,0,none⟩)) b1;have b3:w2.heap[s]?=_:=(hb2.block s (by omega)).trans b2;have b4:=zsr w2 s 6 _ _ (.pointer (some ⟨r2,0,none⟩)) b3;have hz0:(0:Nat)≠s:=by have:=hC.p0;have:=hC.s0;omega
  have hpos:=hC.c1.pos;have hle:=hC.c1.le;have hk:zaJ w (w2.setCell ⟨s,6,none⟩ (.pointer (some ⟨r2,0,none⟩))):=fun k _ e=>by
   have hne:k≠s:=fun e2=>by rw[e2,hbox] at e;exact absurd (zad e) (by decide)
   exact(oo k hne (zrc.1 e).1).trans e
  refine⟨⟨r1,gm1,gv1,sS1,sP1,gx1,Ts1,1,[]⟩,⟨r2,gm2,gv2,sS2,sP2,gx2,Ts2,1,[]⟩,fun k=>w.heap.size<=k/\k<w1.heap.size,fun k=>w1.heap.size<=k/\k<w2.heap.size,⟨b4,hC.keep (fun k h1 h2 h3=>oo k h3 (by omega)) hk (oo 0 hz0 (by omega)) (by simp;omega),RdAt.first (hR1.keep fun k h1 _=>(o2 k (by omega)).trans (o1 k (by omega) h1.2)) hz1,RdAt.first (hR2.keep fun k h1 _=>o2 k (by omega)) hz2,fun k h1=>⟨by omega,by simp;omega⟩,fun k h1=>⟨by omega,by simp;omega⟩,fun k h1 h2=>by omega⟩,rfl,rfl,fun k h1=>by omega,hb2.os.trans hb1.os,hb2.tape.trans hb1.tape,hb2.output.trans hb1.output,by simp;omega,fun k h1 h2=>oo k h2 h1⟩
 have Hhid:Hid (StdC w s v):=hC;have hbb:=hC.c1.btB;have hBl:=hC.c1.le;have hbs:=hC.ne.1;have HC1:Hid (∀w1:World,Below w.drew.heap.size w.drew w1->∀r1:Nat,w1.heap[s]?=some (.cells (zhB v x y) 177 (0,0))/\w1.cell? ⟨v.bt,2,none⟩=some (.slice v.fa v.n v.fc)/\(w1.setCell ⟨s,5,none⟩ (.pointer (some ⟨r1,0,none⟩))).heap[s]?=some (.cells (zhB v (.pointer (some ⟨r1,0,none⟩)) y) 177 (0,0))/\(w1.setCell ⟨s,5,none⟩ (.pointer (some ⟨r1,0,none⟩))).cell? ⟨v.bt,2,none⟩=some (.slice v.fa v.n v.fc)):=fun w1 hb r1=>by
  have e1:=(hb.block s hsl).trans hbox;have e2:=(hb.cell (p:=⟨v.bt,2,none⟩) (by show v.bt<w.heap.size;omega)).trans t2;exact⟨e1,e2,zsr w1 s 5 _ _ _ e1,(World.cell?_of_block (zsq _ _ _ _ (show v.bt≠s from hbs))).trans e2⟩
 have HC2:Hid (∀W w2:World,W.heap[s]?=some (.cells (zhB v x y) 177 (0,0))->True):=fun _ _ _=>trivial
 clear HC2 hC hbox
 go_enter Tryz.func86,Tryz.ntmps86
 go_wp2_with fail
 go_region_held3 (fun w'=>w'.cell? ⟨s,0,none⟩=some (.pointer (some ⟨v.bt,0,none⟩))/\w'.cell? ⟨s,2,none⟩=some (.slice (some ⟨v.ga,0,none⟩) v.nw v.nw)/\w'.cell? ⟨s,3,none⟩=some (.slice (some ⟨v.gl,0,none⟩) v.nw v.nw)/\w'.cell? ⟨v.bt,2,none⟩=some (.slice v.fa v.n v.fc)) ((first|exact⟨c0,c2,c3,t2⟩|exact⟨k0,k2,k3,kt⟩|exact⟨j0,j2,j3,jt⟩|go_keep)) ((go_at_call 104;refine hn1.mono ?_;rintro e w1 ⟨r1,gm1,gv1,sS1,sP1,gx1,Ts1,rfl,hR1,hz1,hb1⟩;obtain⟨kb,kt,jb,jt⟩:=HC1.out w1 hb1 r1;obtain⟨k0,k1,k2,k3,k4,k5,k6⟩:=zaG kb;have kf:=zso _ _ 5 _ _ kb;obtain⟨j0,j1,j2,j3,j4,j5,j6⟩:=zaG jb))
 have hn2':=hn2 w1 hb1 r1;have Hf1:Hid _:=Hfin.out w1 r1 gm1 gv1 sS1 sP1 gx1 Ts1 hb1 hR1 hz1;have hs1:s<w1.heap.size:=(zrc.1 kb).1;obtain⟨X,hX⟩:∃X,w1.setCell ⟨s,5,none⟩ (.pointer (some ⟨r1,0,none⟩))=X:=⟨_,rfl⟩;have hXs:X.heap.size=w1.heap.size:=by rw[<-hX];simp
 rw[hX] at hn2' jb j0 j2 j3 j4 j5 j6 Hf1 ⊢;have HC3:Hid (∀w2:World,Below X.drew.heap.size X.drew w2->∀r2:Nat,w2.heap[s]?=some (.cells (zhB v (.pointer (some ⟨r1,0,none⟩)) y) 177 (0,0))/\(w2.setCell ⟨s,6,none⟩ (.pointer (some ⟨r2,0,none⟩))).heap[s]?=some (.cells (zhB v (.pointer (some ⟨r1,0,none⟩)) (.pointer (some ⟨r2,0,none⟩))) 177 (0,0))):=fun w2 hb r2=>by
  have e1:=(hb.block s (by show s<X.heap.size;omega)).trans jb;exact⟨e1,zsr w2 s 6 _ _ _ e1⟩
 clear HC1 hn1 hn2 Hfin hR1 hz1 hb1 kb kt k0 k1 k2 k3 k4 k5 k6 kf c0 c1 c2 c3 c4 c5 c6 t0 t1 t2 f5 jb jt j1 j5 j6
 go_wp2_with fail
 go_region_held3 (fun w'=>w'.cell? ⟨s,0,none⟩=some (.pointer (some ⟨v.bt,0,none⟩))/\w'.cell? ⟨s,2,none⟩=some (.slice (some ⟨v.ga,0,none⟩) v.nw v.nw)/\w'.cell? ⟨s,3,none⟩=some (.slice (some ⟨v.gl,0,none⟩) v.nw v.nw)/\w'.cell? ⟨s,4,none⟩=some (.slice v.ba v.n v.bc)) ((first|exact⟨j0,j2,j3,j4⟩|exact⟨k0,k2,k3,k4⟩|exact⟨i0,i2,i3,i4⟩|go_keep)) ((go_at_call 104;refine hn2'.mono ?_;rintro e w2 ⟨r2,gm2,gv2,sS2,sP2,gx2,Ts2,rfl,hR2,hz2,hb2⟩;obtain⟨kb,ib⟩:=HC3.out w2 hb2 r2;obtain⟨k0,k1,k2,k3,k4,k5,k6⟩:=zaG kb;have kf:=zso _ _ 6 _ _ kb;obtain⟨i0,i1,i2,i3,i4,i5,i6⟩:=zaG ib))
 have H2:Hid _:=Hf1.out w2 r2 gm2 gv2 sS2 sP2 gx2 Ts2 (by rw[<-hXs];exact hb2) (by rw[<-hXs];exact hR2) hz2;clear HC3 hn2' Hf1 hR2 hz2 hb2 kb ib k0 k1 k2 k3 k4 k5 k6 kf i0 i1 i2 i3 i4 i5 i6 j0 j2 j3 j4;go_wp2
 go_end0
 exact⟨rfl,H2.out⟩
end
section
variable {O:Nat -> Prop}{w:World}{n nw bt ga gl:Nat}{lv:Value}{f:Nat -> Nat -> Bool}{Lk:Nat -> Nat -> Nat}{A L:Nat -> Nat}{v:RdV}
open Go.RowKit
attribute [local go_sem ↓] Go.wp_at_zero Go.wp_at_succ
theorem RdAt.rowS(h:RdAt O w n nw bt ga gl lv f Lk A L v):∃g c:Nat,v.sS=.slice (some ⟨g,0,none⟩) v.m c/\g<w.heap.size/\∀i,i<v.m->w.cell? ⟨g,i,none⟩=some (.slice (some ⟨v.gx i,0,none⟩) nw nw):=by
 obtain⟨g,cap,cur,h1,h2,h3⟩:=zbc h.s.so h.pos;exact⟨g,cap,h1,(zrc.1 h2).1,fun i hi=>by rw[zsm _ _ _ _ _ _ h2,h3 i hi];simp[slcL,hi]⟩
theorem RdAt.rowP(h:RdAt O w n nw bt ga gl lv f Lk A L v):∃g c:Nat,v.sP=.slice (some ⟨g,0,none⟩) v.m c/\g<w.heap.size/\∀i,i<v.m->w.cell? ⟨g,i,none⟩=some (.bool (zb8 nw (v.Ts i) L)):=by
 obtain⟨g,cap,cur,h1,h2,h3⟩:=zbc h.s.po h.pos;exact⟨g,cap,h1,(zrc.1 h2).1,fun i hi=>by rw[zsm _ _ _ _ _ _ h2,h3 i hi];simp[stL,hi]⟩
theorem zoK(O1 O2:Nat->Prop)(s:Nat)(v:StV)(a b:RdV)(w:World)(h:Strd O1 O2 w s v a b)(ha:a.m<=100000000)(hb:b.m<=100000000):
  Calls Tryz.prog 85 #[.pointer (some ⟨s,0,none⟩)] w fun e w'=>e=.returned (.int .i64 ((a.m:Int)+b.m))/\Below w.heap.size w w':=by
 obtain⟨-,-,-,-,-,c5,c6⟩:=zaG h.box;have a5:=(zaM h.ra.s.box).2.2.2.2.2.1;have b5:=(zaM h.rb.s.box).2.2.2.2.2.1;obtain⟨g1,k1,e1,-⟩:=h.ra.rowS;obtain⟨g2,k2,e2,-⟩:=h.rb.rowS;rw[e1] at a5;rw[e2] at b5;clear e1 e2 h
 go_enter Tryz.func85,Tryz.ntmps85
 go_wp2
 go_region
 all_goals
  go_wp2;go_ret;exact⟨rfl,(Below.refl _ _).drew⟩
theorem zqr(O1 O2:Nat->Prop)(s:Nat)(v:StV)(a b:RdV)(w:World)(h:Strd O1 O2 w s v a b)(hn:v.n<=64000):
  Calls Tryz.prog 88 #[.pointer (some ⟨s,0,none⟩)] w fun e w'=>e=.returned (.int .i64 ((v.n:Int)*v.nw))/\Below w.heap.size w w':=by
 obtain⟨c0,-,-,-,c4,-,-⟩:=zaG h.box;obtain⟨t0,-,-,-⟩:=zac h.c.c1.box;have hnw:=h.c.c1.nwl;have hm:(0:Int)<=(v.n:Int)*v.nw/\(v.n:Int)*v.nw<=64000*1000:=⟨Int.mul_nonneg (by omega) (by omega),Int.mul_le_mul (by omega) (by omega) (by omega) (by omega)⟩;clear h
 go_enter Tryz.func88,Tryz.ntmps88
 go_wp2
 go_region
 all_goals
  go_wp2;go_ret;exact⟨rfl,(Below.refl _ _).drew⟩
end
section
variable {p q r s b:Pt}{u:Word}{k i:Nat}{mx:Int}
structure Eqv(p q:Pt):Prop where
 wd:∀u,In p u↔In q u
 pl:∀u i j l,Lg u p i j->Pl u p i j l->Pl u q i j l
theorem Eqv.refl(p:Pt):Eqv p p:=⟨fun _=>Iff.rfl,fun _ _ _ _ _ h=>h⟩
theorem Eqv.trans(h:Eqv p q)(k:Eqv q r):Eqv p r:=⟨fun u=>(h.wd u).trans (k.wd u),fun u i j l a b=>k.pl u i j l ((zbj h.wd).1 a) (h.pl u i j l a b)⟩
theorem zp2(h:Eqv p q)(g:Int):Eqv (.grp p g) (.grp q g):=⟨h.wd,fun u i j _ a ⟨m,e,b⟩=>⟨m,e,h.pl u i j m a b⟩⟩
theorem zp5(h:Eqv p r)(k:Eqv q s):Eqv (.seq p q) (.seq r s):=by
 refine⟨fun u=>exists_congr fun x=>exists_congr fun y=>and_congr_right fun _=>and_congr (h.wd x) (k.wd y),fun u i j l _=>?_⟩;rintro ⟨m,l1,l2,g,h1,h2,e⟩;exact⟨m,l1,l2,g.congr fun m _ _=>and_congr (zbj h.wd) (zbj k.wd),h.pl u i m l1 g.2.2.1.1 h1,k.pl u m j l2 g.2.2.1.2 h2,e⟩
theorem zp1(h:Eqv p r)(k:Eqv q s):Eqv (.alt p q) (.alt r s):=by
 refine⟨fun u=>or_congr (h.wd u) (k.wd u),fun u i j l a=>?_⟩;rintro (⟨h1,h2⟩|⟨h1,h2⟩)
 ·exact .inl ⟨(zbj h.wd).1 h1,h.pl u i j l h1 h2⟩
 ·exact .inr ⟨fun h3=>h1 ((zbj h.wd).2 h3),k.pl u i j l ((zm4.1 a).resolve_left h1) h2⟩
theorem zp4(h:Eqv p q)(mn mx:Int):Eqv (.rep p mn mx) (.rep q mn mx):=by
 have hw:∀(mn mx:Int) u,In (.rep p mn mx) u↔In (.rep q mn mx) u:=fun mn mx u=>zh6 h.wd mn mx u
 refine⟨hw mn mx,fun u i j l h0 hc=>?_⟩;clear h0;replace hc:CpR (Lg u p) (Pl u p) (fun mn mx i j=>Lg u (.rep p mn mx) i j) mn.toNat mx i j l:=hc;show CpR (Lg u q) (Pl u q) (fun mn mx i j=>Lg u (.rep q mn mx) i j) mn.toNat mx i j l;generalize mn.toNat=n at hc
 induction hc with
 |done i j=>exact .done i j
 |void i=>exact .void i
 |out mx i j hm hn=>exact .out mx i j hm fun k a b ⟨c,d⟩=>hn k a b ⟨(zbj h.wd).2 c,(zbj (hw _ _)).2 d⟩
 |must mn mx i j k l1 l2 g h1 h2 ih=>exact .must mn mx i j k l1 l2 (g.congr fun m _ _=>and_congr (zbj h.wd) (zbj (hw _ _))) (h.pl u i k l1 g.2.2.1.1 h1) ih
 |may mx i j k l1 l2 hm g h1 h2 ih=>exact .may mx i j k l1 l2 hm (g.congr fun m _ _=>and_congr (zbj h.wd) (zbj (hw _ _))) (h.pl u i k l1 g.2.2.1.1 h1) ih
 |more i j k l1 l2 hi g h1 h2 ih=>exact .more i j k l1 l2 hi (g.congr fun m _ _=>and_congr (zbj h.wd) (zbj (hw _ _))) (h.pl u i k l1 g.2.2.1.1 h1) ih
theorem zfB(h:k<=u.length)(mx:Int)(hm:mx=-1\/0<=mx):Lg u (.rep b ((0:Nat):Int) mx) k k:=zcX.2 ⟨h,0,by omega,by omega,rfl⟩
theorem zjj{P:Nat->Prop}{j:Nat}(hij:i<=j)(h:P j):Gre P i j j:=⟨hij,zsa _,h,fun m a b=>by omega⟩
theorem zp3(p:Pt):Eqv p (.rep p 1 1):=by
 refine⟨fun u=>(zoA p u).symm,fun u i j l a h=>?_⟩;have:=CpR.must (L:=Lg u p) (R:=Pl u p) (C:=fun mn mx i j=>Lg u (.rep p mn mx) i j) 0 1 i j j l [] (zjj a.1 ⟨a,zfB a.2.1 _ (.inr (by decide))⟩) h (.done j j);rw[zrm] at this;exact this
theorem zkH(hm:0<mx){i j:Nat}{l:List Up}(a:Lg u b i j)(h:Pl u b i j l):mx=1->CpR (Lg u b) (Pl u b) (fun mn mx i j=>Lg u (.rep b mn mx) i j) 0 mx i j l:=by
 rintro rfl;have:=CpR.may (L:=Lg u b) (R:=Pl u b) (C:=fun mn mx i j=>Lg u (.rep b mn mx) i j) 1 i j j l [] (by decide) (zjj a.1 ⟨a,zfB a.2.1 _ (.inr (by decide))⟩) h (.done j j);rw[zrm] at this;exact this
theorem zqP(h:i<k):Lg u b i k↔Lg u (.rep b 0 1) i k:=by
 rw[zcX];constructor
 ·intro a;exact⟨a.2.1,1,by omega,.inr (by decide),k,a,rfl⟩
 ·rintro ⟨_,n,_,h2,h3⟩;obtain rfl|rfl:n=0\/n=1:=by omega
  ·exact absurd (show i=k from h3) (by omega)
  ·obtain⟨m,h4,h5⟩:=h3;obtain rfl:m=k:=h5;exact h4
theorem zmG{imn imx mn:Int}(h1:zbu imn imx=true)(h2:zbu mn mx=true):Eqv (.rep b 0 (if imx<=mx then imx else mx)) (.rep (.rep b imn imx) mn mx):=by
 refine⟨fun u=>zeQ h1 h2 u,fun u i j l a h=>?_⟩;have hw:=fun u=>zeQ (b:=b) h1 h2 u
 unfold zbu at h1 h2;simp only[zsn] at h1 h2;obtain⟨rfl,h1⟩:=h1;obtain⟨rfl,h2⟩:=h2;rcases h2 with rfl|rfl
 ·
  have e:(if imx<=1 then imx else 1)=imx:=zst (by omega);rw[e] at h a;exact zkH (by decide) a h rfl
 ·rcases h1 with rfl|rfl
  ·rw[zss (by decide)] at h a hw;clear a;replace h:CpR (Lg u b) (Pl u b) (fun mn mx i j=>Lg u (.rep b mn mx) i j) (Int.toNat 0) (-1) i j l:=h;show CpR (Lg u (.rep b 0 1)) (Pl u (.rep b 0 1)) (fun mn mx i j=>Lg u (.rep (.rep b 0 1) mn mx) i j) (Int.toNat 0) (-1) i j l;have e0:Int.toNat 0=0:=rfl;rw[e0] at h ⊢;generalize hn:(0:Nat)=n at h;generalize hm:(-1:Int)=m at h
   induction h with
   |done i j=>exact absurd hm (by decide)
   |void i=>exact .void i
   |out mx i j hp _=>omega
   |must mn mx i j k l1 l2 g h1 h2 ih=>omega
   |may mx i j k l1 l2 hp g h1 h2 ih=>omega
   |more i j k l1 l2 hi g h1 h2 ih=>
    have ih:=ih rfl rfl;have hik:i<k:=g.1;refine .more i j k l1 l2 hi (g.congr fun m a _=>and_congr (zqP (by omega)) (zbj hw)) ?_ ih;exact zkH (by decide) g.2.2.1.1 h1 rfl
  ·rw[zst (by decide)] at h a;show CpR (Lg u (.rep b 0 (-1))) (Pl u (.rep b 0 (-1))) (fun mn mx i j=>Lg u (.rep (.rep b 0 (-1)) mn mx) i j) 0 (-1) i j l;rcases zsd i j with hij|hij
   ·have:=CpR.more (L:=Lg u (.rep b 0 (-1))) (R:=Pl u (.rep b 0 (-1))) (C:=fun mn mx i j=>Lg u (.rep (.rep b 0 (-1)) mn mx) i j) i j j l [] hij (zjj hij ⟨a,zfB a.2.1 _ (.inl rfl)⟩) h (.void j);rw[zrm] at this;exact this
   ·obtain rfl:i=j:=by have:=a.1;omega
    clear a;replace h:CpR (Lg u b) (Pl u b) (fun mn mx i j=>Lg u (.rep b mn mx) i j) 0 (-1) i i l:=h;generalize hn:(0:Nat)=n at h;generalize hm:(-1:Int)=m at h;cases h with
    |done=>exact absurd hm (by decide)
    |void=>exact .void i
    |out _ _ _ hp=>omega
    |must=>omega
    |may _ _ _ _ _ _ hp=>omega
    |more _ _ _ _ _ hi=>omega
end
section
variable {w wr w5:World}{v l r:Value}{p t1 t2:Pt}{a b:Int}{g n cap B:Nat}{xs:List Value}
open Go.RowKit
attribute [local go_sem ↓] Go.wp_at_zero Go.wp_at_succ
theorem zaz(h:zai w v p):∃t x,v=.iface t x:=by
 cases p with
 |set f=>obtain⟨_,rfl,_⟩:=h;exact⟨_,_,rfl⟩
 |seq l r=>obtain⟨_,_,rfl,_⟩:=h;exact⟨_,_,rfl⟩
 |alt l r=>obtain⟨_,_,rfl,_⟩:=h;exact⟨_,_,rfl⟩
 |rep b m n=>obtain⟨_,rfl,_⟩:=h;exact⟨_,_,rfl⟩
 |grp b g=>obtain⟨_,rfl,_⟩:=h;exact⟨_,_,rfl⟩
theorem za8:∀(p:Pt) (v:Value),zai w v p->1<=wPt p/\wPt p<=2001
 |.set _,_,_=>by simp[wPt]
 |.seq l r,_,⟨_,_,_,h1,h2⟩=>zcM (by have:=za8 l _ h1;have:=za8 r _ h2;omega)
 |.alt l r,_,⟨_,_,_,h1,h2⟩=>zcM (by have:=za8 l _ h1;have:=za8 r _ h2;omega)
 |.rep b mn mx,_,⟨_,_,h1,h2⟩=>by
  have h3:=za8 b _ h1;have hc:=zcg h2;exact zcM (Int.mul_le_mul h3.1 hc.1 (by omega) (by omega) |> fun h=>by simpa using h)
 |.grp b _,_,⟨_,_,h1⟩=>za8 b _ h1
def RepT(w:World)(p:Pt)(mn mx:Int)(e:Ending)(w':World):Prop:=
 ∃t x p',e=.returned (.iface t x)/\zai w' (.iface t x) p'/\wPt p'=capW (wPt p*zaL mn mx)/\Eqv p' (.rep p mn mx)/\Below w.heap.size w w'
theorem zhv(v:Value)(p:Pt)(mn mx:Int)(w:World)(hT:zai w v p)(hbd:zaD mn mx=true):
  Calls Tryz.prog 100 #[v,.int .i64 mn,.int .i64 mx] w fun e w'=>RepT w p mn mx e w':=by
 have hwb:=za8 p v hT
 by_cases h1:mn=1/\mx=1
 ·obtain⟨rfl,rfl⟩:=h1;obtain⟨t,x,rfl⟩:=zaz hT;exact(ziz _ w t x rfl).mono fun e w' h=>⟨t,x,p,h.1,zai.keep (.of h.2) p _ hT,by rw[show zaL 1 1=1 from rfl,Int.mul_one,zdJ hwb.2],zp3 p,h.2⟩
 ·have hnew:∀t x,zci t x->v=.iface t x->Calls Tryz.prog 100 #[v,.int .i64 mn,.int .i64 mx] w fun e w'=>RepT w p mn mx e w':=by
   intro t x ho hv;subst hv;exact(zgu t x ho mn mx w h1).mono fun e w' h=>⟨_,_,.rep p mn mx,h.1,⟨_,rfl,zai.keep (.of h.2) p _ hT,hbd⟩,rfl,Eqv.refl _,h.2⟩
  cases p with
  |set f=>obtain⟨_,e,_⟩:=hT;exact hnew _ _ (znn _) e
  |seq l r=>obtain⟨_,_,e,_⟩:=hT;exact hnew _ _ (znm _) e
  |alt l r=>obtain⟨_,_,e,_⟩:=hT;exact hnew _ _ (znk _) e
  |grp b g=>obtain⟨_,e,_⟩:=hT;exact hnew _ _ (znl _) e
  |rep b imn imx=>
   clear hnew;have hT0:=hT;obtain⟨l,rfl,hl,hb⟩:=hT;obtain⟨t,x,rfl⟩:=zaz hl;have hb2:=(za8 b _ hl).2;refine(ziA t x imn imx mn mx w h1).mono fun e w' h=>?_
   by_cases hc:zbu imn imx=true/\zbu mn mx=true
   ·rw[zst hc] at h;refine⟨_,_,.rep b 0 (if imx<=mx then imx else mx),h.1,⟨_,rfl,zai.keep (.of h.2) b _ hl,zie (zfC hc.1 hc.2)⟩,?_,zmG hc.1 hc.2,h.2⟩;show capW (wPt b*zaL 0 _)=capW (capW (wPt b*zaL imn imx)*zaL mn mx);rw[zc7 hc.1,zc7 hc.2,zc7 (zfC hc.1 hc.2),Int.mul_one,Int.mul_one,zdJ hb2,zdJ hb2]
   ·rw[zss hc] at h;exact⟨_,_,.rep (.rep b imn imx) mn mx,h.1,⟨_,rfl,zai.keep (.of h.2) _ _ hT0,hbd⟩,rfl,Eqv.refl _,h.2⟩
theorem zmX(sv l:Value)(p:Pt)(mn mx:Int)(g o c:Nat)(w:World)(c0:w.cell? ⟨g,o,none⟩=some l)(hp:zai w l p)(hbd:zaD mn mx=true):
  Calls Tryz.prog 78 #[.agg #[.int .i64 4,sv,.int .i64 mn,.int .i64 mx,.int .i64 0],.slice (some ⟨g,o,none⟩) 1 c] w fun e w'=>RepT w p mn mx e w':=by
 have hg:g<w.heap.size:=block_lt_of_cell c0;have hR:=fun(W:World) (hb:Below w.heap.size w W)=>zhv l p mn mx W (zai.keep (.of hb) p l hp) hbd
 have hb0:Below w.heap.size w (w.alloc (.cells #[.int .i64 4,sv,.int .i64 mn,.int .i64 mx,.int .i64 0] 72)).drew:=((Below.refl _ _).alloc (zsa _) _).drew;clear hp hbd
 go_enter Tryz.func78,Tryz.ntmps78
 go_wp2
 go_region_held3 (fun w'=>w'.cell? ⟨g,o,none⟩=some l/\w'.cell? ⟨w.heap.size,2,none⟩=some (.int .i64 mn)/\w'.cell? ⟨w.heap.size,3,none⟩=some (.int .i64 mx)) ((first|go_keep|exact⟨(hb2.cell (by simp;omega)).trans ((World.cell?_of_block (Below.heap_alloc _ _ _ hg)).trans c0),(hb2.cell (by simp)).trans (by simp),(hb2.cell (by simp)).trans (by simp)⟩)) ((go_at_call 100;refine(hR _ hb0).mono ?_;rintro e w2 ⟨t,x,p2,rfl,hp2,hw2,hi2,hb2⟩))
 go_wp2;go_ret;exact⟨t,x,p2,rfl,hp2,hw2,hi2,zaa hb0 hb0.size hb2⟩
def IsTr(w:World)(v:Value)(t0:Pt)(wt:Int):Prop:=∃p,zai w v p/\wPt p=wt/\Eqv p t0
theorem IsTr.keep{w':World}{t0:Pt}{wt:Int}(h:IsTr w v t0 wt)(hk:zaJ w w'):IsTr w' v t0 wt:=by
 obtain⟨p,h1,h2⟩:=h;exact⟨p,zai.keep hk p v h1,h2⟩
theorem zoE(h1:IsTr w l t1 a)(h2:IsTr w r t2 b):IsTr w (.iface 116 (.agg #[l,r])) (.seq t1 t2) (capW (a+b)):=by
 obtain⟨p,hp,rfl,hi⟩:=h1;obtain⟨q,hq,rfl,hj⟩:=h2;exact⟨.seq p q,⟨l,r,rfl,hp,hq⟩,rfl,zp5 hi hj⟩
theorem zoB(h1:IsTr w l t1 a)(h2:IsTr w r t2 b):IsTr w (.iface 118 (.agg #[l,r])) (.alt t1 t2) (capW (a+b)):=by
 obtain⟨p,hp,rfl,hi⟩:=h1;obtain⟨q,hq,rfl,hj⟩:=h2;exact⟨.alt p q,⟨l,r,rfl,hp,hq⟩,rfl,zp1 hi hj⟩
theorem zoC{g:Int}(h1:IsTr w l t1 a):IsTr w (.iface 124 (.agg #[l,.int .i64 g])) (.grp t1 g) a:=by
 obtain⟨p,hp,rfl,hi⟩:=h1;exact⟨.grp p g,⟨l,rfl,hp⟩,rfl,zp2 hi g⟩
theorem zoD{p':Pt}{mn mx:Int}(hw:wPt p=a)(hi:Eqv p t1)(h:zai w v p')(h2:wPt p'=capW (wPt p*zaL mn mx))(h3:Eqv p' (.rep p mn mx)):IsTr w v (.rep t1 mn mx) (capW (a*zaL mn mx)):=
 ⟨p',h,by rw[h2,hw],h3.trans (zp4 hi mn mx)⟩
theorem zfE(c:Nat):∀(rs:List (Int×Int)) (f:Nat->Bool),(rs.foldl (fun f r=>zfD f r.1 r.2) f) c=(f c || hasF rs c)
 |[],f=>by simp[hasF]
 |r::rs,f=>by
  rw[List.foldl_cons,zfE c rs];simp[zfD,hasF,Bool.or_assoc]
theorem zlv(rs:List (Int×Int))(c:Nat):zcH rs c=hasF rs c:=by
 unfold zcH;rw[zfE]
 rfl
theorem zkt{mg:Nat}{rs:List (Int×Int)}(h:w.heap[mg]?=some (.cells (zao (zcH rs)) 197 (0,0))):IsTr w (.iface 201 (.agg #[.pointer (some ⟨mg,0,none⟩)])) (.set (hasF rs)) 1:=
 ⟨.set (zcH rs),⟨mg,rfl,h⟩,rfl,by rw[show zcH rs=hasF rs from funext fun c=>zlv rs c];exact Eqv.refl _⟩
def zbH(w:World)(xs:List Value)(st:List Int)(ts:List Pt):Prop:=xs.length=st.length/\(∀j,j<st.length->∃t x,xs[j]?=some (.iface t x)/\IsTr w (.iface t x) (ts.getD j zbh) (st.getD j 0))/\ts.length=st.length
theorem zno{base:Nat}{e:TypeId}{sz:Nat}(h:w.ownsRow base e sz (.slice (some ⟨g,0,none⟩) n cap) n xs):∃cur,w.heap[g]?=some (.cells cur e (0,0)):=by
 rcases h.2 with ⟨h0,_⟩|⟨g',cap',cur,hv,_,hh,_⟩
 ·cases h0
 ·cases hv;exact⟨cur,hh⟩
theorem za6{w4:World}(hw:Below wr.heap.size wr w4)(hown:w4.ownsRow B 85 1 (.slice (some ⟨g,0,none⟩) n cap) n xs)(hg:w4.grownBy w5 (some g)):zaJ wr w5:=by
 obtain⟨cur,hr⟩:=zno hown;exact(zaJ.of hw).trans (zaJ.grown hg hr (by decide))
theorem tn1(rs:List (Int×Int))(ops:List Pt):zbq ⟨1,rs,0,0,0⟩ ops=.set (hasF rs):=rfl
theorem tn2(ops:List Pt):zbq ⟨2,[],0,0,0⟩ ops=.seq (ops.getD 0 zbh) (ops.getD 1 zbh):=rfl
theorem tn3(ops:List Pt):zbq ⟨3,[],0,0,0⟩ ops=.alt (ops.getD 0 zbh) (ops.getD 1 zbh):=rfl
theorem tn4(mn mx:Int)(ops:List Pt):zbq ⟨4,[],mn,mx,0⟩ ops=.rep (ops.getD 0 zbh) mn mx:=rfl
theorem tn5(g:Int)(ops:List Pt):zbq ⟨5,[],0,0,g⟩ ops=.grp (ops.getD 0 zbh) g:=rfl
theorem wn1(rs:List (Int×Int))(ops:List Int):zcb ⟨1,rs,0,0,0⟩ ops=1:=rfl
theorem wn2(ops:List Int):zcb ⟨2,[],0,0,0⟩ ops=capW (ops.getD 0 0+ops.getD 1 0):=rfl
theorem wn3(ops:List Int):zcb ⟨3,[],0,0,0⟩ ops=capW (ops.getD 0 0+ops.getD 1 0):=rfl
theorem wn4(mn mx:Int)(ops:List Int):zcb ⟨4,[],mn,mx,0⟩ ops=capW (ops.getD 0 0*zaL mn mx):=rfl
theorem wn5(g:Int)(ops:List Int):zcb ⟨5,[],0,0,g⟩ ops=ops.getD 0 0:=rfl
theorem zcA(ts:List Pt)(m:Nat):(ts.drop m).getD 0 zbh=ts.getD m zbh/\(ts.drop m).getD 1 zbh=ts.getD (m+1) zbh:=by
 simp[List.getD_eq_getElem?_getD,List.getElem?_drop]
theorem zcd{ns:List zak}{k m ar:Nat}{st:List Int}{nd:zak}{t:TypeId}{x:Value}{g' cap':Nat}(hst:st.length=m+ar)(har:zaA nd.kind=ar)(ha:zcb nd (st.drop m)=a)
  (hparts:zbH wr xs st (tstk ns k)) (hk:zaJ wr w5) (hn:ns.getD k .zero=nd) (hp:IsTr w5 (.iface t x) (zbq nd ((tstk ns k).drop m)) a)
  (hdk:st.length<=k) (hown5:w5.ownsRow B 85 1 (.slice (some ⟨g',0,none⟩) (m+1) cap') (m+1) (xs.take m++[.iface t x])) (HS:zcw ns []=zcw (ns.drop k) st) (HD:zcw (ns.drop k) st=zcw (ns.drop (k+1)) (zgm st nd)):
  ∃(st':List Int) (xs':List Value),m+1=st'.length/\w5.ownsRow B 85 1 (.slice (some ⟨g',0,none⟩) st'.length cap') st'.length xs'/\zbH w5 xs' st' (tstk ns (k+1))/\st'.length<=k+1/\Hid (zcw ns []=zcw (ns.drop (k+1)) st'):=by
 have hw:zgm st nd=st.take m++[a]:=by
  unfold zgm;rw[har,hst,Nat.add_sub_cancel,ha]
 have hl:(st.take m++[a]).length=m+1:=by simp;omega
 have hts:tstk ns (k+1)=(tstk ns k).take m++[zbq nd ((tstk ns k).drop m)]:=by
  rw[tstk,hn,zpu,har,hparts.2.2,hst,Nat.add_sub_cancel]
 have hlx:=hparts.1;have hlt:=hparts.2.2;refine⟨st.take m++[a],xs.take m++[.iface t x],hl.symm,by rw[hl];exact hown5,⟨by simp;omega,fun j hj=>?_,by rw[hts];simp;omega⟩,by omega,?_⟩
 ·rw[hl] at hj;rw[hts]
  by_cases e:j=m
  ·subst e;refine⟨t,x,?_,?_⟩
   ·rw[zrz (by simp;omega)];rw[List.length_take,Nat.min_eq_left (by omega),zsh];rfl
   ·have e1:(st.take j++[a]).getD j 0=a:=by
     rw[zrw,zrz (by simp;omega)];simp[Nat.min_eq_left (show j<=st.length by omega)]
    have e2:((tstk ns k).take j++[zbq nd ((tstk ns k).drop j)]).getD j zbh=zbq nd ((tstk ns k).drop j):=by
     rw[zrw,zrz (by simp;omega)];simp[Nat.min_eq_left (show j<=(tstk ns k).length by omega)]
    rw[e1,e2];exact hp
  ·obtain⟨t',x',h1,h2⟩:=hparts.2.1 j (by omega);refine⟨t',x',?_,?_⟩
   ·rw[zry (by simp;omega),zrI,zst (by omega)];exact h1
   ·have e1:(st.take m++[a]).getD j 0=st.getD j 0:=by
     rw[zrw,zry (by simp;omega),zrI,zst (by omega),zrw]
    have e2:((tstk ns k).take m++[zbq nd ((tstk ns k).drop m)]).getD j zbh=(tstk ns k).getD j zbh:=by
     rw[zrw,zry (by simp;omega),zrI,zst (by omega),zrw]
    rw[e1,e2];exact h2.keep hk
 ·show _=_;rw[HS,HD,hw]
end
section
open Go.RowKit
theorem zb9{P:Program}{ops:Array Oper}{o:Oper}{a:Act}{w:World}{K:Act->World->Prop}{Q:Exit->Act->World->Prop}{E:Prop}(hgd:o.guard=none)(f:FuncId)(xs:Array Operand)(ats:Array TypeId)
  (ho:o.op=.call {callee:=.value (.func f),args:=xs,argTypes:=ats}) (args:Array Value) (hargs:(#[]++xs.map a.eval++#[]:Array Value)=args) (R:Value->World->Prop) (hen:(callFunc f args).run P w=.ok (.enter f args) w)
  (hc:Calls P f args w fun e w'=>∃v,e=.returned v/\R v w') (h:∀v w',R v w'->K (a.put o.dst v) w'):
  if Region.wanted o (yielded ops a.tmps)=true then Oper.wp P o a w K Q else E:=by
 have hw:Region.wanted o (yielded ops a.tmps)=true:=by simp[Region.wanted,hgd]
 rw[zst hw];obtain⟨dst,op,type,pos,after,guard⟩:=o;simp only at ho;subst ho;unfold Oper.wp;rw[execOp_call_go,hargs];rw[hen,Oper.upon_enter];refine hc.mono ?_;rintro e w' ⟨v,rfl,hR⟩;exact h v w' hR
end
variable {w W:World}{B n nw bt n' ga gl ha hl:Nat}{mk fr mk' fr' A L A' L':Nat -> Nat}{f f':Nat -> Nat -> Bool}{F F':Nat -> Nat -> Nat}{b c:Bool}{D E:Nat -> Prop}{M N:PA}{sv fv:Value}
open Go.RowKit
theorem zcB(xs:Array Value)(w:World):(callFunc 106 xs).run Tryz.prog w=.ok (.enter 106 xs) w:=by kernel_rfl
theorem ze9(xs:Array Value)(w:World):(callFunc 122 xs).run Tryz.prog w=.ok (.enter 122 xs) w:=by kernel_rfl
theorem zjb(xs:Array Value)(w:World):(callFunc 123 xs).run Tryz.prog w=.ok (.enter 123 xs) w:=by kernel_rfl
def KU(w W:World):Prop:=∀(k:Nat) (cs:Array Value) (t:TypeId),w.heap[k]?=some (.cells cs t (0,0))->t≠185->W.heap[k]?=some (.cells cs t (0,0))
theorem KU.of{S:Nat->Prop}(t:zan S w W)(hS:∀k,k<w.heap.size->S k->∃m T,zal w m k T):KU w W:=fun k cs u hk hu=>by
 have hlt:=(zrc.1 hk).1;refine(t.same k hlt (fun hs=>?_)).trans hk;obtain⟨m,T,hp⟩:=hS k hlt hs;have:=hp.row;rw[hk] at this;exact hu (zad this)
def WrX(B:Nat)(w:World)(n nw bt:Nat)(mk:Nat->Nat)(f:Nat->Nat->Bool)(fr:Nat->Nat)(F:Nat->Nat->Nat)(W:World)(n' ga gl:Nat)(b:Bool)(M:PA):Prop:=
 ∃(sv fv:Value) (mk':Nat->Nat) (f':Nat->Nat->Bool) (fr':Nat->Nat) (F':Nat->Nat->Nat) (A L:Nat->Nat),WrD B w n nw bt mk f fr F W n' ga gl b M sv fv mk' f' fr' F' A L
theorem znN
  (h:Pair B w n nw bt mk f fr F W n' ga gl ha hl b c D E M N sv fv mk' f' fr' F' A L A' L'):
  Calls Tryz.prog 122 #[.pointer (some ⟨bt,0,none⟩),.agg #[.bool b,.slice (some ⟨ga,0,none⟩) nw nw,.slice (some ⟨gl,0,none⟩) nw nw],.agg #[.bool c,.slice (some ⟨ha,0,none⟩) nw nw,.slice (some ⟨hl,0,none⟩) nw nw]] W fun e W2=>
   e=.returned (.agg #[.bool (b&&c),.slice (some ⟨ga,0,none⟩) nw nw,.slice (some ⟨hl,0,none⟩) nw nw])/\WrX B w n nw bt mk f fr F W2 n' ga hl (b&&c) (PA.seq M N)/\KU W W2:=by
 refine(zj2 n' nw bt ga gl ha hl b c sv fv fr' F' A L A' L' W h.tk.l h.x h.y h.aa h.al h.ll h.e1 h.e2 h.e3 h.e4 (fun p _ hp=>((h.un p).1 (.inl (h.gx.la p hp))).2)).mono fun e W2 hs=>⟨hs.1,⟨_,_,_,_,_,_,_,_,h.seq hs⟩,KU.of hs.2.2.2 (fun k _ e=>?_)⟩
 rcases e with rfl|rfl|⟨p,hp,rfl⟩
 ·exact⟨_,_,h.x.fi⟩
 ·exact⟨_,_,h.y.la⟩
 ·exact⟨_,_,h.tk.fol.rows p hp⟩
theorem zpS
  (h:Pair B w n nw bt mk f fr F W n' ga gl ha hl b c D E M N sv fv mk' f' fr' F' A L A' L'):
  Calls Tryz.prog 123 #[.pointer (some ⟨bt,0,none⟩),.agg #[.bool b,.slice (some ⟨ga,0,none⟩) nw nw,.slice (some ⟨gl,0,none⟩) nw nw],.agg #[.bool c,.slice (some ⟨ha,0,none⟩) nw nw,.slice (some ⟨hl,0,none⟩) nw nw]] W fun e W2=>
   e=.returned (.agg #[.bool (b || c),.slice (some ⟨ga,0,none⟩) nw nw,.slice (some ⟨gl,0,none⟩) nw nw])/\WrX B w n nw bt mk f fr F W2 n' ga gl (b || c) (PA.alt M N)/\KU W W2:=by
 refine(zmu nw bt ga gl ha hl b c A L A' L' W h.x h.y h.aa h.al h.ll h.tk.nwl).mono fun e W2 hs=>⟨hs.1,⟨_,_,_,_,_,_,_,_,h.alt hs.2.1 hs.2.2⟩,KU.of hs.2.2 (fun k _ e=>?_)⟩
 rcases e with rfl|rfl
 ·exact⟨_,_,h.x.fi⟩
 ·exact⟨_,_,h.x.la⟩
theorem zpn
  (h:WrD B w n nw bt mk f fr F W n' ga gl b M sv fv mk' f' fr' F' A L):
  Calls Tryz.prog 132 #[.pointer (some ⟨bt,0,none⟩),.slice (some ⟨gl,0,none⟩) nw nw,.slice (some ⟨ga,0,none⟩) nw nw] W fun e W2=>
   e=.returned (.tuple #[])/\WrX B w n nw bt mk f fr F W2 n' ga gl true (PA.star M)/\KU W W2:=by
 refine(zkA n' nw bt gl nw ga nw sv fv fr' F' L A W h.tk.l h.fg.la h.fg.fi h.el h.ea (fun p _ hp=>(h.good.la p hp).2)).mono fun e W2 hs=>⟨hs.1,⟨_,_,_,_,_,_,_,_,h.star hs.2.1 hs.2.2⟩,KU.of hs.2.2 (fun k _ ⟨p,hp,e⟩=>⟨_,_,e ▸ h.tk.fol.rows p hp⟩)⟩
def WrC(p:Pt):Prop:=∀(B n nw bt:Nat) (sv fv:Value) (mk:Nat->Nat) (f:Nat->Nat->Bool) (fr:Nat->Nat) (F:Nat->Nat->Nat) (w:World) (v:Value),Trk B w n nw bt sv fv mk f fr F->zai w v p->wPt p<=2000->n+(wPt p).toNat<=64*nw->
 Calls Tryz.prog 106 #[.pointer (some ⟨bt,0,none⟩),v] w fun e W=>WrR B w n nw bt mk f fr F (wPt p).toNat (unD p n) e W
end Go.Proofs.YthdljcdbfmhleaaGreatDoor
