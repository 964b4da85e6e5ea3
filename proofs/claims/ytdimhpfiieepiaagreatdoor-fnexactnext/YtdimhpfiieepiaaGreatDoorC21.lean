import Derived.Test.YtdimhpfiieepiaaGreatDoorC19
import Derived.Test.YtdimhpfiieepiaaGreatDoorC20
import Derived.Deep.RegionHeld3
namespace Go.Proofs.YtdimhpfiieepiaaGreatDoor
set_option maxHeartbeats 1000000
set_option maxRecDepth 100000
section
open Go.RowKit
attribute [local go_sem ↓] Go.wp_at_zero Go.wp_at_succ
def sesC(L:Int)(B:ByteArray)(C:Bool)(S N:Int):Array Value:=#[.int .i64 L,.string B,.bool C,.int .i64 S,.int .i64 N]
theorem zqs(g:Nat)(L:Int)(B:ByteArray)(C:Bool)(S N:Int)(w:World)(hg:w.heap[g]?=some (.cells (sesC L B C S N) 32 (0,0))):
  Calls Tryz.prog 105 #[.pointer (some ⟨g,0,none⟩)] w fun e w'=>e=.returned (.tuple #[])/\zam (· = g) w w'/\w'.heap[g]?=some (.cells (sesC L B C 0 0) 32 (0,0)):=by
 obtain⟨c0,c1,c2,c3,c4⟩:=zax hg;have f3:=zvY _ _ 3 _ _ hg;have f4:=zvY _ _ 4 _ _ hg;have h1:=zv1 w g 4 _ _ (.int .i64 0) hg;have h2:=zv1 (w.setCell ⟨g,4,none⟩ (.int .i64 0)) g 3 _ _ (.int .i64 0) h1;have HT:=hidR (show zam (· = g) w ((w.setCell ⟨g,4,none⟩ (.int .i64 0)).setCell ⟨g,3,none⟩ (.int .i64 0)) from((zam.refl _ w).grown (zaK w g 4 _) (fun k e=>.inl (Option.some.inj e).symm)).grown (zaK _ g 3 _) (fun k e=>.inl (Option.some.inj e).symm));have H2:=hidR h2;clear hg h1 h2
 go_enter Tryz.func105,Tryz.ntmps105
 go_wp2
 go_end0
 exact⟨rfl,HT.out,H2.out⟩
theorem zny(g:Nat)(L:Int)(B:ByteArray)(C:Bool)(S N:Int)(b:Nat)(hb:b<=B.size)(w:World)(hg:w.heap[g]?=some (.cells (sesC L B C S N) 32 (0,0))):
  Calls Tryz.prog 75 #[.pointer (some ⟨g,0,none⟩),.int .i64 b] w fun e w'=>e=.returned (.tuple #[])/\zam (· = g) w w'/\w'.heap[g]?=some (.cells (sesC L (B.extract b B.size) C 0 0) 32 (0,0)):=by
 obtain⟨c0,c1,c2,c3,c4⟩:=zax hg;have f1:=zvY _ _ 1 _ _ hg;have h1:=zv1 w g 1 _ _ (.string (B.extract b B.size)) hg;have hT:zam (· = g) w (w.setCell ⟨g,1,none⟩ (.string (B.extract b B.size))):=(zam.refl _ w).grown (zaK w g 1 _) (fun k e=>.inl (Option.some.inj e).symm);have hrw:=zqs g L (B.extract b B.size) C S N _ h1;have HT:=hidR hT;have hb0:(0:Int)<=(b:Int):=by omega
 have hb1:(b:Int)<=(B.size:Int):=by omega
 clear hg h1 hT
 go_enter Tryz.func75,Tryz.ntmps75
 go_wp2_with fail
 refine hrw.mono ?_;rintro e w2 ⟨rfl,h2,h3⟩;have HF:=hidR (HT.out.trans h2);have H3:=hidR h3;clear h2 h3 hrw;go_wp2
 go_end0
 exact⟨rfl,HF.out,H3.out⟩
def finC(rv cv:Value)(wd:Int)(bv fv tv ev nv kv pv qv:Value):Array Value:=#[rv,cv,.int .i64 wd,bv,fv,tv,ev,nv,kv,pv,qv]
def namS(d:TabD)(C:Bool)(q b n:Nat):Int:=if C&&b==n then d.fin.getD q 0 else d.tag.getD q 0
theorem zrm{lo:Nat}(bf g:Nat)(rv cv bv fv tv ev nv kv pv qv:Value)(d:TabD)(L:Int)(B:ByteArray)(C:Bool)(q b:Nat)(w:World)(hs:zbe lo w cv bv fv tv ev nv kv d)(hf:zbX d)(hq:q<d.base.length)
  (hbf:w.heap[bf]?=some (.cells (finC rv cv d.width bv fv tv ev nv kv pv qv) 128 (0,0))) (hg:w.heap[g]?=some (.cells (sesC L B C q b) 32 (0,0))):
  Calls Tryz.prog 73 #[.pointer (some ⟨bf,0,none⟩),.pointer (some ⟨g,0,none⟩)] w fun e w'=>e=.returned (.int .i64 (namS d C q b B.size))/\Below w.heap.size w w':=by
 obtain⟨c0,c1,c2,c3,c4⟩:=zax hg;have z5:w.cell? ⟨bf,5,none⟩=some tv:=(zvW _ _ _ _ _ _ hbf:_=_);have z6:w.cell? ⟨bf,6,none⟩=some ev:=(zvW _ _ _ _ _ _ hbf:_=_);obtain⟨tao,tcp,rfl,-,htc⟩:=hs.tag;obtain⟨eao,ecp,rfl,-,hec⟩:=hs.fin;have hn1:=hf.n1;obtain⟨tb,to_,rfl,-,htl,htq⟩:=htc (by rw[hf.tl];omega);obtain⟨eb,eo,rfl,-,hel,heq⟩:=hec (by rw[hf.el];omega);have hi0:(0:Int)<=(q:Int):=by omega
 have hi1:(q:Int)<(d.tag.length:Int):=by have:=hf.tl;omega
 have hi2:(q:Int)<(d.fin.length:Int):=by have:=hf.el;omega
 have ct:=htq q (by omega);have ce:=heq q (by omega);have Hn:Hid (namS d C q b B.size=if C&&b==B.size then d.fin.getD q 0 else d.tag.getD q 0):=rfl;clear hs htc hec htq heq hf hbf hg;cases C
 ·go_enter Tryz.func73,Tryz.ntmps73
  go_wp2
  go_quiet (fail)
  go_wp2
  go_quiet (fail)
  go_wp2;go_ret;exact⟨zaR (by rw[Hn.out];rfl),below_drewN (below_drewN (Below.refl _ _) _) _⟩
 ·cases hcb:(b==B.size)
  ·have hd:((b:Int)==(B.size:Int))=false:=by simp at hcb ⊢;omega
   go_enter Tryz.func73,Tryz.ntmps73
   go_wp2
   go_quiet (fail)
   go_wp2
   go_quiet (fail)
   go_wp2;go_ret;exact⟨zaR (by rw[Hn.out,hcb];rfl),below_drewN (below_drewN (Below.refl _ _) _) _⟩
  ·have hd:((b:Int)==(B.size:Int))=true:=by simp at hcb ⊢;omega
   go_enter Tryz.func73,Tryz.ntmps73
   go_wp2
   go_quiet (fail)
   go_wp2
   go_quiet (fail)
   go_wp2;go_ret;exact⟨zaR (by rw[Hn.out,hcb];rfl),below_drewN (below_drewN (Below.refl _ _) _) _⟩
end
section
open Go.RowKit
attribute [local go_sem ↓] Go.wp_at_zero Go.wp_at_succ
theorem zbb{w:World}{g:Nat}{a b c d e f h i j:Value}{t:TypeId}(z:w.heap[g]?=some (.cells #[a,b,c,d,e,f,h,i,j] t (0,0))):w.cell? ⟨g,0,none⟩=some a/\w.cell? ⟨g,1,none⟩=some b/\w.cell? ⟨g,2,none⟩=some c/\w.cell? ⟨g,3,none⟩=some d/\w.cell? ⟨g,4,none⟩=some e/\w.cell? ⟨g,5,none⟩=some f/\w.cell? ⟨g,6,none⟩=some h/\w.cell? ⟨g,7,none⟩=some i/\w.cell? ⟨g,8,none⟩=some j:=
 ⟨zaj z 0,zaj z 1,zaj z 2,zaj z 3,zaj z 4,zaj z 5,zaj z 6,zaj z 7,zaj z 8⟩
theorem zey{lo:Nat}(ao:Option Addr)(rc:Nat)(cv bv fv tv ev nv kv:Value)(rs:List zaG)(d:TabD)(w:World)(hr:zaY lo w (.slice ao rs.length rc) rs)(hsm:zcL rs)(hs:zbe lo w cv bv fv tv ev nv kv d):
  Calls Tryz.prog 28 #[.agg #[.slice ao rs.length rc,cv,.int .i64 d.width,bv,fv,tv,ev,nv,kv]] w fun e w'=>e=.returned (.bool (matB rs d))/\Below w.heap.size w w':=by
 obtain⟨W0,hW0⟩:∃W0,w.alloc (.cells #[.slice ao rs.length rc,cv,.int .i64 d.width,bv,fv,tv,ev,nv,kv] 41)=W0:=⟨_,rfl⟩;have hb0:Below w.heap.size w W0:=by rw[<-hW0];exact(Below.refl _ _).alloc (zvJ _) _
 have r0:W0.heap[w.heap.size]?=some (.cells #[.slice ao rs.length rc,cv,.int .i64 d.width,bv,fv,tv,ev,nv,kv] 41 (0,0)):=by rw[<-hW0];exact zvZ _ _
 have hl:=hsm.1;have hw1:IntKind.i64.wrap ((rs.length:Int)-1)=(rs.length:Int)-1:=by rw[IntKind.wrap_i64];omega
 have c1:=zlx (.slice ao rs.length rc) rs W0 (hr.below hb0) hsm;have c2:=fun W (hb:Below w.heap.size w W)=>zh7 cv bv fv tv ev nv kv d W (hs.below hb)
 have c3:=fun W (hb:Below w.heap.size w W)=>zbn (-1) ((rs.length:Int)-1) tv d.tag W (hs.below hb).tag
 have c4:=fun W (hb:Below w.heap.size w W)=>zbn (-1) ((rs.length:Int)-1) ev d.fin W (hs.below hb).fin
 have Hm:Hid (matB rs d=(zc2 rs&&tabB d&&zaL (-1) (rs.length-1) d.tag&&zaL (-1) (rs.length-1) d.fin)):=rfl;obtain⟨q0,q1,q2,q3,q4,q5,q6,q7,q8⟩:=zbb r0;clear hr hs hsm;generalize zc2 rs=b1 at *;generalize tabB d=b2 at *;generalize zaL (-1) (rs.length-1) d.tag=b3 at *;generalize zaL (-1) (rs.length-1) d.fin=b4 at *
 go_enter Tryz.func28,Tryz.ntmps28
 go_wp2_with fail
 refine c1.mono ?_;rintro e w1 ⟨rfl,hb1⟩;have bl1:=zaa hb0 hb0.size hb1;have r1:=zag r0 hb1;clear q0 q1 q2 q3 q4 q5 q6 q7 q8 hW0 c1;cases b1
 ·go_wp2;go_ret;exact⟨zae (by rw[Hm.out];rfl),bl1⟩
 obtain⟨q0,q1,q2,q3,q4,q5,q6,q7,q8⟩:=zbb r1;have c2:=c2 w1 bl1
 go_wp2_with fail
 refine c2.mono ?_;rintro e w2 ⟨rfl,hb2⟩;have bl2:=zaa bl1 bl1.size hb2;have r2:=zag r1 hb2;clear q0 q1 q2 q3 q4 q5 q6 q7 q8 c2;cases b2
 ·go_wp2;go_ret;exact⟨zae (by rw[Hm.out];rfl),bl2⟩
 obtain⟨q0,q1,q2,q3,q4,q5,q6,q7,q8⟩:=zbb r2;have c3:=c3 w2 bl2
 go_wp2_with fail
 refine c3.mono ?_;rintro e w3 ⟨rfl,hw3⟩;subst w3;clear c3;cases b3
 ·go_wp2;go_ret;exact⟨zae (by rw[Hm.out];rfl),bl2⟩
 have c4:=c4 w2 bl2
 go_wp2_with fail
 refine c4.mono ?_;rintro e w4 ⟨rfl,hw4⟩;subst w4;go_wp2;go_ret;exact⟨zae (by rw[Hm.out];rfl),bl2⟩
end
section
variable{p q r s b:Pt}{u:Word}{k i:Nat}{mx:Int}
structure Eqv(p q:Pt):Prop where
 wd:∀u,In p u↔In q u
 pl:∀u i j l,Lg u p i j->Pl u p i j l->Pl u q i j l
theorem Eqv.refl(p:Pt):Eqv p p:=⟨fun _=>Iff.rfl,fun _ _ _ _ _ h=>h⟩
theorem Eqv.trans(h:Eqv p q)(k:Eqv q r):Eqv p r:=⟨fun u=>(h.wd u).trans (k.wd u),fun u i j l a b=>k.pl u i j l ((zbH h.wd).1 a) (h.pl u i j l a b)⟩
theorem ztd(h:Eqv p q)(g:Int):Eqv (.grp p g) (.grp q g):=⟨h.wd,fun u i j _ a ⟨m,e,b⟩=>⟨m,e,h.pl u i j m a b⟩⟩
theorem ztg(h:Eqv p r)(k:Eqv q s):Eqv (.seq p q) (.seq r s):=by
 refine⟨fun u=>exists_congr fun x=>exists_congr fun y=>and_congr_right fun _=>and_congr (h.wd x) (k.wd y),fun u i j l _=>?_⟩;rintro ⟨m,l1,l2,g,h1,h2,e⟩;exact⟨m,l1,l2,g.congr fun m _ _=>and_congr (zbH h.wd) (zbH k.wd),h.pl u i m l1 g.2.2.1.1 h1,k.pl u m j l2 g.2.2.1.2 h2,e⟩
theorem ztc(h:Eqv p r)(k:Eqv q s):Eqv (.alt p q) (.alt r s):=by
 refine⟨fun u=>or_congr (h.wd u) (k.wd u),fun u i j l a=>?_⟩;rintro (⟨h1,h2⟩|⟨h1,h2⟩)
 ·exact .inl ⟨(zbH h.wd).1 h1,h.pl u i j l h1 h2⟩
 ·exact .inr ⟨fun h3=>h1 ((zbH h.wd).2 h3),k.pl u i j l ((zpK.1 a).resolve_left h1) h2⟩
theorem ztf(h:Eqv p q)(mn mx:Int):Eqv (.rep p mn mx) (.rep q mn mx):=by
 have hw:∀(mn mx:Int) u,In (.rep p mn mx) u↔In (.rep q mn mx) u:=fun mn mx u=>zj6 h.wd mn mx u
 refine⟨hw mn mx,fun u i j l h0 hc=>?_⟩;clear h0;replace hc:CpR (Lg u p) (Pl u p) (fun mn mx i j=>Lg u (.rep p mn mx) i j) mn.toNat mx i j l:=hc;show CpR (Lg u q) (Pl u q) (fun mn mx i j=>Lg u (.rep q mn mx) i j) mn.toNat mx i j l;generalize mn.toNat=n at hc
 induction hc with
 |done i j=>exact .done i j
 |void i=>exact .void i
 |out mx i j hm hn=>exact .out mx i j hm fun k a b ⟨c,d⟩=>hn k a b ⟨(zbH h.wd).2 c,(zbH (hw _ _)).2 d⟩
 |must mn mx i j k l1 l2 g h1 h2 ih=>exact .must mn mx i j k l1 l2 (g.congr fun m _ _=>and_congr (zbH h.wd) (zbH (hw _ _))) (h.pl u i k l1 g.2.2.1.1 h1) ih
 |may mx i j k l1 l2 hm g h1 h2 ih=>exact .may mx i j k l1 l2 hm (g.congr fun m _ _=>and_congr (zbH h.wd) (zbH (hw _ _))) (h.pl u i k l1 g.2.2.1.1 h1) ih
 |more i j k l1 l2 hi g h1 h2 ih=>exact .more i j k l1 l2 hi (g.congr fun m _ _=>and_congr (zbH h.wd) (zbH (hw _ _))) (h.pl u i k l1 g.2.2.1.1 h1) ih
theorem zgU(h:k<=u.length)(mx:Int)(hm:mx=-1\/0<=mx):Lg u (.rep b ((0:Nat):Int) mx) k k:=zdR.2 ⟨h,0,by omega,by omega,rfl⟩
theorem zlq{P:Nat->Prop}{j:Nat}(hij:i<=j)(h:P j):Gre P i j j:=⟨hij,zvJ _,h,fun m a b=>by omega⟩
theorem zte(p:Pt):Eqv p (.rep p 1 1):=by
 refine⟨fun u=>(zrw p u).symm,fun u i j l a h=>?_⟩;have:=CpR.must (L:=Lg u p) (R:=Pl u p) (C:=fun mn mx i j=>Lg u (.rep p mn mx) i j) 0 1 i j j l [] (zlq a.1 ⟨a,zgU a.2.1 _ (.inr (by decide))⟩) h (.done j j);rw[zuS] at this;exact this
theorem zmW(hm:0<mx){i j:Nat}{l:List Up}(a:Lg u b i j)(h:Pl u b i j l):mx=1->CpR (Lg u b) (Pl u b) (fun mn mx i j=>Lg u (.rep b mn mx) i j) 0 mx i j l:=by
 rintro rfl;have:=CpR.may (L:=Lg u b) (R:=Pl u b) (C:=fun mn mx i j=>Lg u (.rep b mn mx) i j) 1 i j j l [] (by decide) (zlq a.1 ⟨a,zgU a.2.1 _ (.inr (by decide))⟩) h (.done j j);rw[zuS] at this;exact this
theorem zuh(h:i<k):Lg u b i k↔Lg u (.rep b 0 1) i k:=by
 rw[zdR];constructor
 ·intro a;exact⟨a.2.1,1,by omega,.inr (by decide),k,a,rfl⟩
 ·rintro ⟨_,n,_,h2,h3⟩;obtain rfl|rfl:n=0\/n=1:=by omega
  ·exact absurd (show i=k from h3) (by omega)
  ·obtain⟨m,h4,h5⟩:=h3;obtain rfl:m=k:=h5;exact h4
theorem zpl{imn imx mn:Int}(h1:zbS imn imx=true)(h2:zbS mn mx=true):Eqv (.rep b 0 (if imx<=mx then imx else mx)) (.rep (.rep b imn imx) mn mx):=by
 refine⟨fun u=>zf5 h1 h2 u,fun u i j l a h=>?_⟩;have hw:=fun u=>zf5 (b:=b) h1 h2 u
 unfold zbS at h1 h2;simp only[zvX] at h1 h2;obtain⟨rfl,h1⟩:=h1;obtain⟨rfl,h2⟩:=h2;rcases h2 with rfl|rfl
 ·-- the outer is a question mark: the inner has all of it
  have e:(if imx<=1 then imx else 1)=imx:=zv3 (by omega);rw[e] at h a;exact zmW (by decide) a h rfl
 ·rcases h1 with rfl|rfl
  ·rw[zv2 (by decide)] at h a hw;clear a;replace h:CpR (Lg u b) (Pl u b) (fun mn mx i j=>Lg u (.rep b mn mx) i j) (Int.toNat 0) (-1) i j l:=h;show CpR (Lg u (.rep b 0 1)) (Pl u (.rep b 0 1)) (fun mn mx i j=>Lg u (.rep (.rep b 0 1) mn mx) i j) (Int.toNat 0) (-1) i j l;have e0:Int.toNat 0=0:=rfl;rw[e0] at h ⊢;generalize hn:(0:Nat)=n at h;generalize hm:(-1:Int)=m at h
   induction h with
   |done i j=>exact absurd hm (by decide)
   |void i=>exact .void i
   |out mx i j hp _=>omega
   |must mn mx i j k l1 l2 g h1 h2 ih=>omega
   |may mx i j k l1 l2 hp g h1 h2 ih=>omega
   |more i j k l1 l2 hi g h1 h2 ih=>
    have ih:=ih rfl rfl;have hik:i<k:=g.1;refine .more i j k l1 l2 hi (g.congr fun m a _=>and_congr (zuh (by omega)) (zbH hw)) ?_ ih;exact zmW (by decide) g.2.2.1.1 h1 rfl
  ·rw[zv3 (by decide)] at h a;show CpR (Lg u (.rep b 0 (-1))) (Pl u (.rep b 0 (-1))) (fun mn mx i j=>Lg u (.rep (.rep b 0 (-1)) mn mx) i j) 0 (-1) i j l;rcases zvM i j with hij|hij
   ·have:=CpR.more (L:=Lg u (.rep b 0 (-1))) (R:=Pl u (.rep b 0 (-1))) (C:=fun mn mx i j=>Lg u (.rep (.rep b 0 (-1)) mn mx) i j) i j j l [] hij (zlq hij ⟨a,zgU a.2.1 _ (.inl rfl)⟩) h (.void j);rw[zuS] at this;exact this
   ·obtain rfl:i=j:=by have:=a.1;omega
    clear a;replace h:CpR (Lg u b) (Pl u b) (fun mn mx i j=>Lg u (.rep b mn mx) i j) 0 (-1) i i l:=h;generalize hn:(0:Nat)=n at h;generalize hm:(-1:Int)=m at h;cases h with
    |done=>exact absurd hm (by decide)
    |void=>exact .void i
    |out _ _ _ hp=>omega
    |must=>omega
    |may _ _ _ _ _ _ hp=>omega
    |more _ _ _ _ _ hi=>omega
end
variable{w wr w5:World}{v l r:Value}{p t1 t2:Pt}{a b:Int}{g n cap B:Nat}{xs:List Value}
open Go.RowKit
attribute [local go_sem ↓] Go.wp_at_zero Go.wp_at_succ
theorem zaC(h:zan w v p):∃t x,v=.iface t x:=by
 cases p with
 |set f=>obtain⟨_,rfl,_⟩:=h;exact⟨_,_,rfl⟩
 |seq l r=>obtain⟨_,_,rfl,_⟩:=h;exact⟨_,_,rfl⟩
 |alt l r=>obtain⟨_,_,rfl,_⟩:=h;exact⟨_,_,rfl⟩
 |rep b m n=>obtain⟨_,rfl,_⟩:=h;exact⟨_,_,rfl⟩
 |grp b g=>obtain⟨_,rfl,_⟩:=h;exact⟨_,_,rfl⟩
theorem zbw:∀(p:Pt) (v:Value),zan w v p->1<=wPt p/\wPt p<=2001
 |.set _,_,_=>by simp[wPt]
 |.seq l r,_,⟨_,_,_,h1,h2⟩=>zdF (by have:=zbw l _ h1;have:=zbw r _ h2;omega)
 |.alt l r,_,⟨_,_,_,h1,h2⟩=>zdF (by have:=zbw l _ h1;have:=zbw r _ h2;omega)
 |.rep b mn mx,_,⟨_,_,h1,h2⟩=>by
  have h3:=zbw b _ h1;have hc:=zcZ h2;exact zdF (Int.mul_le_mul h3.1 hc.1 (by omega) (by omega) |> fun h=>by simpa using h)
 |.grp b _,_,⟨_,_,h1⟩=>zbw b _ h1
def RepT(w:World)(p:Pt)(mn mx:Int)(e:Ending)(w':World):Prop:=
 ∃t x p',e=.returned (.iface t x)/\zan w' (.iface t x) p'/\wPt p'=capW (wPt p*zaV mn mx)/\Eqv p' (.rep p mn mx)/\Below w.heap.size w w'
theorem zjq(v:Value)(p:Pt)(mn mx:Int)(w:World)(hT:zan w v p)(hbd:zaM mn mx=true):
  Calls Tryz.prog 178 #[v,.int .i64 mn,.int .i64 mx] w fun e w'=>RepT w p mn mx e w':=by
 have hwb:=zbw p v hT
 by_cases h1:mn=1/\mx=1
 ·obtain⟨rfl,rfl⟩:=h1;obtain⟨t,x,rfl⟩:=zaC hT;exact(zkz _ w t x rfl).mono fun e w' h=>⟨t,x,p,h.1,zan.keep (.of h.2) p _ hT,by rw[show zaV 1 1=1 from rfl,Int.mul_one,zeH hwb.2],zte p,h.2⟩
 ·have hnew:∀t x,zc3 t x->v=.iface t x->Calls Tryz.prog 178 #[v,.int .i64 mn,.int .i64 mx] w fun e w'=>RepT w p mn mx e w':=by
   intro t x ho hv;subst hv;exact(zhW t x ho mn mx w h1).mono fun e w' h=>⟨_,_,.rep p mn mx,h.1,⟨_,rfl,zan.keep (.of h.2) p _ hT,hbd⟩,rfl,Eqv.refl _,h.2⟩
  cases p with
  |set f=>obtain⟨_,e,_⟩:=hT;exact hnew _ _ (zp7 _) e
  |seq l r=>obtain⟨_,_,e,_⟩:=hT;exact hnew _ _ (zp6 _) e
  |alt l r=>obtain⟨_,_,e,_⟩:=hT;exact hnew _ _ (zp4 _) e
  |grp b g=>obtain⟨_,e,_⟩:=hT;exact hnew _ _ (zp5 _) e
  |rep b imn imx=>
   clear hnew;have hT0:=hT;obtain⟨l,rfl,hl,hb⟩:=hT;obtain⟨t,x,rfl⟩:=zaC hl;have hb2:=(zbw b _ hl).2;refine(zkA t x imn imx mn mx w h1).mono fun e w' h=>?_
   by_cases hc:zbS imn imx=true/\zbS mn mx=true
   ·rw[zv3 hc] at h;refine⟨_,_,.rep b 0 (if imx<=mx then imx else mx),h.1,⟨_,rfl,zan.keep (.of h.2) b _ hl,zke (zgV hc.1 hc.2)⟩,?_,zpl hc.1 hc.2,h.2⟩;show capW (wPt b*zaV 0 _)=capW (capW (wPt b*zaV imn imx)*zaV mn mx);rw[zd0 hc.1,zd0 hc.2,zd0 (zgV hc.1 hc.2),Int.mul_one,Int.mul_one,zeH hb2,zeH hb2]
   ·rw[zv2 hc] at h;exact⟨_,_,.rep (.rep b imn imx) mn mx,h.1,⟨_,rfl,zan.keep (.of h.2) _ _ hT0,hbd⟩,rfl,Eqv.refl _,h.2⟩
theorem zpD(sv l:Value)(p:Pt)(mn mx:Int)(g o c:Nat)(w:World)(c0:w.cell? ⟨g,o,none⟩=some l)(hp:zan w l p)(hbd:zaM mn mx=true):
  Calls Tryz.prog 157 #[.agg #[.int .i64 4,sv,.int .i64 mn,.int .i64 mx,.int .i64 0],.slice (some ⟨g,o,none⟩) 1 c] w fun e w'=>RepT w p mn mx e w':=by
 have hg:g<w.heap.size:=block_lt_of_cell c0;have hR:=fun(W:World) (hb:Below w.heap.size w W)=>zjq l p mn mx W (zan.keep (.of hb) p l hp) hbd
 have hb0:Below w.heap.size w (w.alloc (.cells #[.int .i64 4,sv,.int .i64 mn,.int .i64 mx,.int .i64 0] 149)).drew:=((Below.refl _ _).alloc (zvJ _) _).drew;clear hp hbd
 go_enter Tryz.func157,Tryz.ntmps157
 go_wp2
 go_region_held3 (fun w'=>w'.cell? ⟨g,o,none⟩=some l/\w'.cell? ⟨w.heap.size,2,none⟩=some (.int .i64 mn)/\w'.cell? ⟨w.heap.size,3,none⟩=some (.int .i64 mx)) ((first|go_keep|exact⟨(hb2.cell (by simp;omega)).trans ((World.cell?_of_block (Below.heap_alloc _ _ _ hg)).trans c0),(hb2.cell (by simp)).trans (by simp),(hb2.cell (by simp)).trans (by simp)⟩)) ((go_at_call 178;refine(hR _ hb0).mono ?_;rintro e w2 ⟨t,x,p2,rfl,hp2,hw2,hi2,hb2⟩))
 go_wp2;go_ret;exact⟨t,x,p2,rfl,hp2,hw2,hi2,zaa hb0 hb0.size hb2⟩
def IsTr(w:World)(v:Value)(t0:Pt)(wt:Int):Prop:=∃p,zan w v p/\wPt p=wt/\Eqv p t0
theorem IsTr.keep{w':World}{t0:Pt}{wt:Int}(h:IsTr w v t0 wt)(hk:zaT w w'):IsTr w' v t0 wt:=by
 obtain⟨p,h1,h2⟩:=h;exact⟨p,zan.keep hk p v h1,h2⟩
theorem zrA(h1:IsTr w l t1 a)(h2:IsTr w r t2 b):IsTr w (.iface 256 (.agg #[l,r])) (.seq t1 t2) (capW (a+b)):=by
 obtain⟨p,hp,rfl,hi⟩:=h1;obtain⟨q,hq,rfl,hj⟩:=h2;exact⟨.seq p q,⟨l,r,rfl,hp,hq⟩,rfl,ztg hi hj⟩
theorem zrx(h1:IsTr w l t1 a)(h2:IsTr w r t2 b):IsTr w (.iface 258 (.agg #[l,r])) (.alt t1 t2) (capW (a+b)):=by
 obtain⟨p,hp,rfl,hi⟩:=h1;obtain⟨q,hq,rfl,hj⟩:=h2;exact⟨.alt p q,⟨l,r,rfl,hp,hq⟩,rfl,ztc hi hj⟩
theorem zry{g:Int}(h1:IsTr w l t1 a):IsTr w (.iface 264 (.agg #[l,.int .i64 g])) (.grp t1 g) a:=by
 obtain⟨p,hp,rfl,hi⟩:=h1;exact⟨.grp p g,⟨l,rfl,hp⟩,rfl,ztd hi g⟩
theorem zrz{p':Pt}{mn mx:Int}(hw:wPt p=a)(hi:Eqv p t1)(h:zan w v p')(h2:wPt p'=capW (wPt p*zaV mn mx))(h3:Eqv p' (.rep p mn mx)):IsTr w v (.rep t1 mn mx) (capW (a*zaV mn mx)):=
 ⟨p',h,by rw[h2,hw],h3.trans (ztf hi mn mx)⟩
theorem zgX(c:Nat):∀(rs:List (Int×Int)) (f:Nat->Bool),(rs.foldl (fun f r=>zgW f r.1 r.2) f) c=(f c || hasF rs c)
 |[],f=>by simp[hasF]
 |r::rs,f=>by
  rw[List.foldl_cons,zgX c rs];simp[zgW,hasF,Bool.or_assoc]
theorem znV(rs:List (Int×Int))(c:Nat):zdz rs c=hasF rs c:=by
 unfold zdz;rw[zgX]
 rfl
theorem zmG{mg:Nat}{rs:List (Int×Int)}(h:w.heap[mg]?=some (.cells (zas (zdz rs)) 293 (0,0))):IsTr w (.iface 297 (.agg #[.pointer (some ⟨mg,0,none⟩)])) (.set (hasF rs)) 1:=
 ⟨.set (zdz rs),⟨mg,rfl,h⟩,rfl,by rw[show zdz rs=hasF rs from funext fun c=>znV rs c];exact Eqv.refl _⟩
def zbY(w:World)(xs:List Value)(st:List Int)(ts:List Pt):Prop:=xs.length=st.length/\(∀j,j<st.length->∃t x,xs[j]?=some (.iface t x)/\IsTr w (.iface t x) (ts.getD j zbG) (st.getD j 0))/\ts.length=st.length
theorem zjj{base:Nat}{e:TypeId}{sz:Nat}(h:w.ownsRow base e sz (.slice (some ⟨g,0,none⟩) n cap) n xs):∃cur,w.heap[g]?=some (.cells cur e (0,0)):=by
 rcases h.2 with ⟨h0,_⟩|⟨g',cap',cur,hv,_,hh,_⟩
 ·cases h0
 ·cases hv;exact⟨cur,hh⟩
theorem zbt{w4:World}(hw:Below wr.heap.size wr w4)(hown:w4.ownsRow B 184 1 (.slice (some ⟨g,0,none⟩) n cap) n xs)(hg:w4.grownBy w5 (some g)):zaT wr w5:=by
 obtain⟨cur,hr⟩:=zjj hown;exact(zaT.of hw).trans (zaT.grown hg hr (by decide))
theorem tn1(rs:List (Int×Int))(ops:List Pt):zbO ⟨1,rs,0,0,0⟩ ops=.set (hasF rs):=rfl
theorem tn2(ops:List Pt):zbO ⟨2,[],0,0,0⟩ ops=.seq (ops.getD 0 zbG) (ops.getD 1 zbG):=rfl
theorem tn3(ops:List Pt):zbO ⟨3,[],0,0,0⟩ ops=.alt (ops.getD 0 zbG) (ops.getD 1 zbG):=rfl
theorem tn4(mn mx:Int)(ops:List Pt):zbO ⟨4,[],mn,mx,0⟩ ops=.rep (ops.getD 0 zbG) mn mx:=rfl
theorem tn5(g:Int)(ops:List Pt):zbO ⟨5,[],0,0,g⟩ ops=.grp (ops.getD 0 zbG) g:=rfl
theorem wn1(rs:List (Int×Int))(ops:List Int):zcT ⟨1,rs,0,0,0⟩ ops=1:=rfl
theorem wn2(ops:List Int):zcT ⟨2,[],0,0,0⟩ ops=capW (ops.getD 0 0+ops.getD 1 0):=rfl
theorem wn3(ops:List Int):zcT ⟨3,[],0,0,0⟩ ops=capW (ops.getD 0 0+ops.getD 1 0):=rfl
theorem wn4(mn mx:Int)(ops:List Int):zcT ⟨4,[],mn,mx,0⟩ ops=capW (ops.getD 0 0*zaV mn mx):=rfl
theorem wn5(g:Int)(ops:List Int):zcT ⟨5,[],0,0,g⟩ ops=ops.getD 0 0:=rfl
theorem zds(ts:List Pt)(m:Nat):(ts.drop m).getD 0 zbG=ts.getD m zbG/\(ts.drop m).getD 1 zbG=ts.getD (m+1) zbG:=by
 simp[List.getD_eq_getElem?_getD,List.getElem?_drop]
theorem zcU{ns:List zaq}{k m ar:Nat}{st:List Int}{nd:zaq}{t:TypeId}{x:Value}{g' cap':Nat}(hst:st.length=m+ar)(har:zaE nd.kind=ar)(ha:zcT nd (st.drop m)=a)
  (hparts:zbY wr xs st (tstk ns k)) (hk:zaT wr w5) (hn:ns.getD k .zero=nd) (hp:IsTr w5 (.iface t x) (zbO nd ((tstk ns k).drop m)) a)
  (hdk:st.length<=k) (hown5:w5.ownsRow B 184 1 (.slice (some ⟨g',0,none⟩) (m+1) cap') (m+1) (xs.take m++[.iface t x])) (HS:zdo ns []=zdo (ns.drop k) st) (HD:zdo (ns.drop k) st=zdo (ns.drop (k+1)) (zhH st nd)):
  ∃(st':List Int) (xs':List Value),m+1=st'.length/\w5.ownsRow B 184 1 (.slice (some ⟨g',0,none⟩) st'.length cap') st'.length xs'/\zbY w5 xs' st' (tstk ns (k+1))/\st'.length<=k+1/\Hid (zdo ns []=zdo (ns.drop (k+1)) st'):=by
 have hw:zhH st nd=st.take m++[a]:=by
  unfold zhH;rw[har,hst,zvG,ha]
 have hl:(st.take m++[a]).length=m+1:=by simp;omega
 have hts:tstk ns (k+1)=(tstk ns k).take m++[zbO nd ((tstk ns k).drop m)]:=by
  rw[tstk,hn,zsA,har,hparts.2.2,hst,zvG]
 have hlx:=hparts.1;have hlt:=hparts.2.2;refine⟨st.take m++[a],xs.take m++[.iface t x],hl.symm,by rw[hl];exact hown5,⟨by simp;omega,fun j hj=>?_,by rw[hts];simp;omega⟩,by omega,?_⟩
 ·rw[hl] at hj;rw[hts]
  by_cases e:j=m
  ·subst e;refine⟨t,x,?_,?_⟩
   ·rw[zu6 (by simp;omega)];rw[List.length_take,zvO (by omega),zvR];rfl
   ·have e1:(st.take j++[a]).getD j 0=a:=by
     rw[zu3,zu6 (by simp;omega)];simp[Nat.min_eq_left (show j<=st.length by omega)]
    have e2:((tstk ns k).take j++[zbO nd ((tstk ns k).drop j)]).getD j zbG=zbO nd ((tstk ns k).drop j):=by
     rw[zu3,zu6 (by simp;omega)];simp[Nat.min_eq_left (show j<=(tstk ns k).length by omega)]
    rw[e1,e2];exact hp
  ·obtain⟨t',x',h1,h2⟩:=hparts.2.1 j (by omega);refine⟨t',x',?_,?_⟩
   ·rw[zu5 (by simp;omega),zvf,zv3 (by omega)];exact h1
   ·have e1:(st.take m++[a]).getD j 0=st.getD j 0:=by
     rw[zu3,zu5 (by simp;omega),zvf,zv3 (by omega),zu3]
    have e2:((tstk ns k).take m++[zbO nd ((tstk ns k).drop m)]).getD j zbG=(tstk ns k).getD j zbG:=by
     rw[zu3,zu5 (by simp;omega),zvf,zv3 (by omega),zu3]
    rw[e1,e2];exact h2.keep hk
 ·show _=_;rw[HS,HD,hw]
end Go.Proofs.YtdimhpfiieepiaaGreatDoor
