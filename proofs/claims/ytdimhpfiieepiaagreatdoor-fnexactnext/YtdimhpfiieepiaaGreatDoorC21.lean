import Derived.Test.YtdimhpfiieepiaaGreatDoorC20
import Derived.Deep.RegionHeld3
namespace Go.Proofs.YtdimhpfiieepiaaGreatDoor
open Proofs.Tryz
open Option renaming some->za,none->zb
open Value renaming int->zc,agg->zh,slice->zi,pointer->zj
open Go renaming Value->zd,World->ze,Calls->zg,TypeId->zk
open Obj renaming cells->zf
set_option maxHeartbeats 1000000
set_option maxRecDepth 100000
section
open Go.RowKit
attribute [local go_sem ↓] wp_at_zero wp_at_succ
def oc(L:Int)(B:ByteArray)(C:Bool)(S N:Int):Array zd:=#[zc .i64 L,.string B,.bool C,zc .i64 S,zc .i64 N]
theorem zpX(g:Nat)(L:Int)(B:ByteArray)(C:Bool)(S N:Int)(w:ze)(hg:w.heap[g]?=za (zf (oc L B C S N) 32 (0,0))):
  zg prog 105 #[zj (za ⟨g,0,zb⟩)] w λe w'=>e=.returned (.tuple #[])/\aE (· = g) w w'/\w'.heap[g]?=za (zf (oc L B C 0 0) 32 (0,0)):=by
 obtain⟨c0,c1,c2,c3,c4⟩:=eW hg;have f3:=cF _ _ 3 _ _ hg;have f4:=cF _ _ 4 _ _ hg;have h1:=dF w g 4 _ _ (zc .i64 0) hg;have h2:=dF (w.setCell ⟨g,4,zb⟩ (zc .i64 0)) g 3 _ _ (zc .i64 0) h1;have HT:=aY (show aE (· = g) w ((w.setCell ⟨g,4,zb⟩ (zc .i64 0)).setCell ⟨g,3,zb⟩ (zc .i64 0)) from((aE.refl _ w).grown (jf w g 4 _) (λk e=>.inl (Option.some.inj e).symm)).grown (jf _ g 3 _) (λk e=>.inl (Option.some.inj e).symm));have H2:=aY h2;clear hg h1 h2
 go_enter func105,ntmps105
 go_wp2
 go_end0
 exact⟨rfl,HT.out,H2.out⟩
theorem zm2(g:Nat)(L:Int)(B:ByteArray)(C:Bool)(S N:Int)(b:Nat)(hb:b<=B.size)(w:ze)(hg:w.heap[g]?=za (zf (oc L B C S N) 32 (0,0))):
  zg prog 75 #[zj (za ⟨g,0,zb⟩),zc .i64 b] w λe w'=>e=.returned (.tuple #[])/\aE (· = g) w w'/\w'.heap[g]?=za (zf (oc L (B.extract b B.size) C 0 0) 32 (0,0)):=by
 obtain⟨c0,c1,c2,c3,c4⟩:=eW hg;have f1:=cF _ _ 1 _ _ hg;have h1:=dF w g 1 _ _ (.string (B.extract b B.size)) hg;have hT:aE (· = g) w (w.setCell ⟨g,1,zb⟩ (.string (B.extract b B.size))):=(aE.refl _ w).grown (jf w g 1 _) (λk e=>.inl (Option.some.inj e).symm);have pb:=zpX g L (B.extract b B.size) C S N _ h1;have HT:=aY hT;have ae:(0:Int)<=(b:Int):=by omega
 have ak:(b:Int)<=(B.size:Int):=by omega
 clear hg h1 hT
 go_enter func75,ntmps75
 go_wp2_with fail
 refine pb.mono ?_;rintro e w2 ⟨rfl,h2,h3⟩;have HF:=aY (HT.out.trans h2);have H3:=aY h3;clear h2 h3 pb;go_wp2
 go_end0
 exact⟨rfl,HF.out,H3.out⟩
def DT(rv cv:zd)(wd:Int)(bv fv tv ev nv kv pv qv:zd):Array zd:=#[rv,cv,zc .i64 wd,bv,fv,tv,ev,nv,kv,pv,qv]
def OH(d:bG)(C:Bool)(q b n:Nat):Int:=if C&&b==n then d.fin.getD q 0 else d.tag.getD q 0
theorem zqR{lo:Nat}(bf g:Nat)(rv cv bv fv tv ev nv kv pv qv:zd)(d:bG)(L:Int)(B:ByteArray)(C:Bool)(q b:Nat)(w:ze)(hs:eN lo w cv bv fv tv ev nv kv d)(hf:rZ d)(hq:q<d.base.length)
  (ux:w.heap[bf]?=za (zf (DT rv cv d.width bv fv tv ev nv kv pv qv) 128 (0,0))) (hg:w.heap[g]?=za (zf (oc L B C q b) 32 (0,0))):
  zg prog 73 #[zj (za ⟨bf,0,zb⟩),zj (za ⟨g,0,zb⟩)] w λe w'=>e=.returned (zc .i64 (OH d C q b B.size))/\Below w.heap.size w w':=by
 obtain⟨c0,c1,c2,c3,c4⟩:=eW hg;have z5:w.cell? ⟨bf,5,zb⟩=za tv:=(aO _ _ _ _ _ _ ux:_=_);have z6:w.cell? ⟨bf,6,zb⟩=za ev:=(aO _ _ _ _ _ _ ux:_=_);obtain⟨tao,tcp,rfl,-,KM⟩:=hs.tag;obtain⟨eao,Gj,rfl,-,J7⟩:=hs.fin;have oZ:=hf.n1;obtain⟨tb,EM,rfl,-,nh,KN⟩:=KM (by rw[hf.tl];omega);obtain⟨eb,eo,rfl,-,hel,kS⟩:=J7 (by rw[hf.el];omega);have dO:(0:Int)<=(q:Int):=by omega
 have dh:(q:Int)<(d.tag.length:Int):=by have:=hf.tl;omega
 have th:(q:Int)<(d.fin.length:Int):=by have:=hf.el;omega
 have ct:=KN q (by omega);have ce:=kS q (by omega);have Hn:Hid (OH d C q b B.size=if C&&b==B.size then d.fin.getD q 0 else d.tag.getD q 0):=rfl;clear hs KM J7 KN kS hf ux hg;cases C
 ·go_enter func73,ntmps73
  go_wp2
  go_quiet (fail)
  go_wp2
  go_quiet (fail)
  go_wp2;go_ret;exact⟨eX (by rw[Hn.out];rfl),below_drewN (below_drewN (Below.refl _ _) _) _⟩
 ·cases nR:(b==B.size)
  ·have hd:((b:Int)==(B.size:Int))=false:=by simp at nR ⊢;omega
   go_enter func73,ntmps73
   go_wp2
   go_quiet (fail)
   go_wp2
   go_quiet (fail)
   go_wp2;go_ret;exact⟨eX (by rw[Hn.out,nR];rfl),below_drewN (below_drewN (Below.refl _ _) _) _⟩
  ·have hd:((b:Int)==(B.size:Int))=true:=by simp at nR ⊢;omega
   go_enter func73,ntmps73
   go_wp2
   go_quiet (fail)
   go_wp2
   go_quiet (fail)
   go_wp2;go_ret;exact⟨eX (by rw[Hn.out,nR];rfl),below_drewN (below_drewN (Below.refl _ _) _) _⟩
end
section
open Go.RowKit
attribute [local go_sem ↓] wp_at_zero wp_at_succ
theorem mC{w:ze}{g:Nat}{a b c d e f h i j:zd}{t:zk}(z:w.heap[g]?=za (zf #[a,b,c,d,e,f,h,i,j] t (0,0))):w.cell? ⟨g,0,zb⟩=za a/\w.cell? ⟨g,1,zb⟩=za b/\w.cell? ⟨g,2,zb⟩=za c/\w.cell? ⟨g,3,zb⟩=za d/\w.cell? ⟨g,4,zb⟩=za e/\w.cell? ⟨g,5,zb⟩=za f/\w.cell? ⟨g,6,zb⟩=za h/\w.cell? ⟨g,7,zb⟩=za i/\w.cell? ⟨g,8,zb⟩=za j:=
 ⟨cm z 0,cm z 1,cm z 2,cm z 3,cm z 4,cm z 5,cm z 6,cm z 7,cm z 8⟩
theorem zeu{lo:Nat}(ao:Option Addr)(rc:Nat)(cv bv fv tv ev nv kv:zd)(rs:List bL)(d:bG)(w:ze)(hr:gZ lo w (.slice ao rs.length rc) rs)(hsm:qM rs)(hs:eN lo w cv bv fv tv ev nv kv d):
  zg prog 28 #[zh #[.slice ao rs.length rc,cv,zc .i64 d.width,bv,fv,tv,ev,nv,kv]] w λe w'=>e=.returned (.bool (rT rs d))/\Below w.heap.size w w':=by
 obtain⟨W0,ah⟩:∃W0,w.alloc (zf #[.slice ao rs.length rc,cv,zc .i64 d.width,bv,fv,tv,ev,nv,kv] 41)=W0:=⟨_,rfl⟩;have ae:Below w.heap.size w W0:=by rw[<-ah];exact au
 have r0:W0.heap[w.heap.size]?=za (zf #[.slice ao rs.length rc,cv,zc .i64 d.width,bv,fv,tv,ev,nv,kv] 41 (0,0)):=by rw[<-ah];exact aL _ _
 have hl:=hsm.1;have lG:IntKind.i64.wrap ((rs.length:Int)-1)=(rs.length:Int)-1:=by rw[IntKind.wrap_i64];omega
 have c1:=zlf (.slice ao rs.length rc) rs W0 (hr.below ae) hsm;have c2:=λW (hb:Below w.heap.size w W)=>zhJ cv bv fv tv ev nv kv d W (hs.below hb)
 have c3:=λW (hb:Below w.heap.size w W)=>zr (-1) ((rs.length:Int)-1) tv d.tag W (hs.below hb).tag
 have c4:=λW (hb:Below w.heap.size w W)=>zr (-1) ((rs.length:Int)-1) ev d.fin W (hs.below hb).fin
 have Hm:Hid (rT rs d=(li rs&&iq d&&bO (-1) (rs.length-1) d.tag&&bO (-1) (rs.length-1) d.fin)):=rfl;obtain⟨q0,q1,q2,q3,q4,q5,q6,q7,q8⟩:=mC r0;clear hr hs hsm;generalize li rs=b1 at *;generalize iq d=b2 at *;generalize bO (-1) (rs.length-1) d.tag=b3 at *;generalize bO (-1) (rs.length-1) d.fin=b4 at *
 go_enter func28,ntmps28
 go_wp2_with fail
 refine c1.mono ?_;rintro e w1 ⟨rfl,ak⟩;have iU:=aj ae ae.size ak;have r1:=cB r0 ak;clear q0 q1 q2 q3 q4 q5 q6 q7 q8 ah c1;cases b1
 ·go_wp2;go_ret;exact⟨bF (by rw[Hm.out];rfl),iU⟩
 obtain⟨q0,q1,q2,q3,q4,q5,q6,q7,q8⟩:=mC r1;have c2:=c2 w1 iU
 go_wp2_with fail
 refine c2.mono ?_;rintro e w2 ⟨rfl,af⟩;have dL:=aj iU iU.size af;have r2:=cB r1 af;clear q0 q1 q2 q3 q4 q5 q6 q7 q8 c2;cases b2
 ·go_wp2;go_ret;exact⟨bF (by rw[Hm.out];rfl),dL⟩
 obtain⟨q0,q1,q2,q3,q4,q5,q6,q7,q8⟩:=mC r2;have c3:=c3 w2 dL
 go_wp2_with fail
 refine c3.mono ?_;rintro e w3 ⟨rfl,G2⟩;subst w3;clear c3;cases b3
 ·go_wp2;go_ret;exact⟨bF (by rw[Hm.out];rfl),dL⟩
 have c4:=c4 w2 dL
 go_wp2_with fail
 refine c4.mono ?_;rintro e w4 ⟨rfl,AV⟩;subst w4;go_wp2;go_ret;exact⟨bF (by rw[Hm.out];rfl),dL⟩
end
section
variable {p q r s b:Pt}{u:aJ}{k i:Nat}{mx:Int}
structure iz(p q:Pt):Prop where
 wd:∀u,In p u↔In q u
 pl:∀u i j l,Lg u p i j->Pl u p i j l->Pl u q i j l
theorem iz.refl(p:Pt):iz p p:=⟨λ_=>Iff.rfl,λ_ _ _ _ _ h=>h⟩
theorem iz.trans(h:iz p q)(k:iz q r):iz p r:=⟨λu=>(h.wd u).trans (k.wd u),λu i j l a b=>k.pl u i j l ((tK h.wd).1 a) (h.pl u i j l a b)⟩
theorem zsG(h:iz p q)(g:Int):iz (.aT p g) (.aT q g):=⟨h.wd,λu i j _ a ⟨m,e,b⟩=>⟨m,e,h.pl u i j m a b⟩⟩
theorem zsJ(h:iz p r)(k:iz q s):iz (.seq p q) (.seq r s):=by
 refine⟨λu=>exists_congr λx=>exists_congr λy=>and_congr_right λ_=>and_congr (h.wd x) (k.wd y),λu i j l _=>?_⟩;rintro ⟨m,l1,l2,g,h1,h2,e⟩;exact⟨m,l1,l2,g.congr λm _ _=>and_congr (tK h.wd) (tK k.wd),h.pl u i m l1 g.2.2.1.1 h1,k.pl u m j l2 g.2.2.1.2 h2,e⟩
theorem zsF(h:iz p r)(k:iz q s):iz (.aQ p q) (.aQ r s):=by
 refine⟨λu=>or_congr (h.wd u) (k.wd u),λu i j l a=>?_⟩;rintro (⟨h1,h2⟩|⟨h1,h2⟩)
 ·exact .inl ⟨(tK h.wd).1 h1,h.pl u i j l h1 h2⟩
 ·exact .inr ⟨λh3=>h1 ((tK h.wd).2 h3),k.pl u i j l ((Xa.1 a).resolve_left h1) h2⟩
theorem zsI(h:iz p q)(mn mx:Int):iz (.aw p mn mx) (.aw q mn mx):=by
 have hw:∀(mn mx:Int) u,In (.aw p mn mx) u↔In (.aw q mn mx) u:=λmn mx u=>zjO h.wd mn mx u
 refine⟨hw mn mx,λu i j l h0 hc=>?_⟩;clear h0;replace hc:ie (Lg u p) (Pl u p) (λmn mx i j=>Lg u (.aw p mn mx) i j) mn.toNat mx i j l:=hc;show ie (Lg u q) (Pl u q) (λmn mx i j=>Lg u (.aw q mn mx) i j) mn.toNat mx i j l;generalize mn.toNat=n at hc
 induction hc with
 |done i j=>exact .done i j
 |pk i=>exact .pk i
 |out mx i j hm hn=>exact .out mx i j hm λk a b ⟨c,d⟩=>hn k a b ⟨(tK h.wd).2 c,(tK (hw _ _)).2 d⟩
 |must mn mx i j k l1 l2 g h1 h2 ih=>exact .must mn mx i j k l1 l2 (g.congr λm _ _=>and_congr (tK h.wd) (tK (hw _ _))) (h.pl u i k l1 g.2.2.1.1 h1) ih
 |may mx i j k l1 l2 hm g h1 h2 ih=>exact .may mx i j k l1 l2 hm (g.congr λm _ _=>and_congr (tK h.wd) (tK (hw _ _))) (h.pl u i k l1 g.2.2.1.1 h1) ih
 |more i j k l1 l2 hi g h1 h2 ih=>exact .more i j k l1 l2 hi (g.congr λm _ _=>and_congr (tK h.wd) (tK (hw _ _))) (h.pl u i k l1 g.2.2.1.1 h1) ih
theorem Mc(h:k<=u.length)(mx:Int)(hm:mx=-1\/0<=mx):Lg u (.aw b ((0:Nat):Int) mx) k k:=wD.2 ⟨h,0,by omega,by omega,rfl⟩
theorem Wv{P:Nat->Prop}{j:Nat}(dA:i<=j)(h:P j):nF P i j j:=⟨dA,ai _,h,λm a b=>by omega⟩
theorem zsH(p:Pt):iz p (.aw p 1 1):=by
 refine⟨λu=>(zq1 p u).symm,λu i j l a h=>?_⟩;have:=ie.must (L:=Lg u p) (R:=Pl u p) (C:=λmn mx i j=>Lg u (.aw p mn mx) i j) 0 1 i j j l [] (Wv a.1 ⟨a,Mc a.2.1 _ (.inr (by decide))⟩) h (.done j j);rw[tW]at this;exact this
theorem zmr(hm:0<mx){i j:Nat}{l:List Up}(a:Lg u b i j)(h:Pl u b i j l):mx=1->ie (Lg u b) (Pl u b) (λmn mx i j=>Lg u (.aw b mn mx) i j) 0 mx i j l:=by
 rintro rfl;have:=ie.may (L:=Lg u b) (R:=Pl u b) (C:=λmn mx i j=>Lg u (.aw b mn mx) i j) 1 i j j l [] (by decide) (Wv a.1 ⟨a,Mc a.2.1 _ (.inr (by decide))⟩) h (.done j j);rw[tW]at this;exact this
theorem ztC(h:i<k):Lg u b i k↔Lg u (.aw b 0 1) i k:=by
 rw[wD];constructor
 ·intro a;exact⟨a.2.1,1,by omega,.inr (by decide),k,a,rfl⟩
 ·rintro ⟨_,n,_,h2,h3⟩;obtain rfl|rfl:n=0\/n=1:=by omega
  ·exact absurd (show i=k from h3) (by omega)
  ·obtain⟨m,h4,h5⟩:=h3;obtain rfl:m=k:=h5;exact h4
theorem zoP{lH eI mn:Int}(h1:gK lH eI=true)(h2:gK mn mx=true):iz (.aw b 0 (if eI<=mx then eI else mx)) (.aw (.aw b lH eI) mn mx):=by
 refine⟨λu=>zf2 h1 h2 u,λu i j l a h=>?_⟩;have hw:=λu=>zf2 (b:=b) h1 h2 u
 unfold gK at h1 h2;simp only[oD]at h1 h2;obtain⟨rfl,h1⟩:=h1;obtain⟨rfl,h2⟩:=h2;rcases h2 with rfl|rfl
 ·
  have e:(if eI<=1 then eI else 1)=eI:=aD (by omega);rw[e]at h a;exact zmr (by decide) a h rfl
 ·rcases h1 with rfl|rfl
  ·rw[aq (by decide)]at h a hw;clear a;replace h:ie (Lg u b) (Pl u b) (λmn mx i j=>Lg u (.aw b mn mx) i j) (Int.toNat 0) (-1) i j l:=h;show ie (Lg u (.aw b 0 1)) (Pl u (.aw b 0 1)) (λmn mx i j=>Lg u (.aw (.aw b 0 1) mn mx) i j) (Int.toNat 0) (-1) i j l;have e0:Int.toNat 0=0:=rfl;rw[e0]at h ⊢;generalize hn:(0:Nat)=n at h;generalize hm:(-1:Int)=m at h
   induction h with
   |done i j=>exact absurd hm (by decide)
   |pk i=>exact .pk i
   |out mx i j hp _=>omega
   |must mn mx i j k l1 l2 g h1 h2 ih=>omega
   |may mx i j k l1 l2 hp g h1 h2 ih=>omega
   |more i j k l1 l2 hi g h1 h2 ih=>
    have ih:=ih rfl rfl;have GK:i<k:=g.1;refine .more i j k l1 l2 hi (g.congr λm a _=>and_congr (ztC (by omega)) (tK hw)) ?_ ih;exact zmr (by decide) g.2.2.1.1 h1 rfl
  ·rw[aD (by decide)]at h a;show ie (Lg u (.aw b 0 (-1))) (Pl u (.aw b 0 (-1))) (λmn mx i j=>Lg u (.aw (.aw b 0 (-1)) mn mx) i j) 0 (-1) i j l;rcases gh i j with dA|dA
   ·have:=ie.more (L:=Lg u (.aw b 0 (-1))) (R:=Pl u (.aw b 0 (-1))) (C:=λmn mx i j=>Lg u (.aw (.aw b 0 (-1)) mn mx) i j) i j j l [] dA (Wv dA ⟨a,Mc a.2.1 _ (.inl rfl)⟩) h (.pk j);rw[tW]at this;exact this
   ·obtain rfl:i=j:=by have:=a.1;omega
    clear a;replace h:ie (Lg u b) (Pl u b) (λmn mx i j=>Lg u (.aw b mn mx) i j) 0 (-1) i i l:=h;generalize hn:(0:Nat)=n at h;generalize hm:(-1:Int)=m at h;cases h with
    |done=>exact absurd hm (by decide)
    |pk=>exact .pk i
    |out _ _ _ hp=>omega
    |must=>omega
    |may _ _ _ _ _ _ hp=>omega
    |more _ _ _ _ _ hi=>omega
end
variable {w wr w5:ze}{v l r:zd}{p t1 t2:Pt}{a b:Int}{g n cap B:Nat}{xs:List zd}
open Go.RowKit
attribute [local go_sem ↓] wp_at_zero wp_at_succ
theorem ji(h:aR w v p):∃t x,v=.iface t x:=by
 cases p with
 |set f=>obtain⟨_,rfl,_⟩:=h;exact⟨_,_,rfl⟩
 |seq l r=>obtain⟨_,_,rfl,_⟩:=h;exact⟨_,_,rfl⟩
 |aQ l r=>obtain⟨_,_,rfl,_⟩:=h;exact⟨_,_,rfl⟩
 |aw b m n=>obtain⟨_,rfl,_⟩:=h;exact⟨_,_,rfl⟩
 |aT b g=>obtain⟨_,rfl,_⟩:=h;exact⟨_,_,rfl⟩
theorem iS:∀(p:Pt) (v:zd),aR w v p->1<=aF p/\aF p<=2001
 |.set _,_,_=>by simp[aF]
 |.seq l r,_,⟨_,_,_,h1,h2⟩=>Bb (by have:=iS l _ h1;have:=iS r _ h2;omega)
 |.aQ l r,_,⟨_,_,_,h1,h2⟩=>Bb (by have:=iS l _ h1;have:=iS r _ h2;omega)
 |.aw b mn mx,_,⟨_,_,h1,h2⟩=>by
  have h3:=iS b _ h1;have hc:=E2 h2;exact Bb (Int.mul_le_mul h3.1 hc.1 (by omega) (by omega) |> λh=>by simpa using h)
 |.aT b _,_,⟨_,_,h1⟩=>iS b _ h1
def Q8(w:ze)(p:Pt)(mn mx:Int)(e:Ending)(w':ze):Prop:=
 ∃t x p',e=.returned (.iface t x)/\aR w' (.iface t x) p'/\aF p'=cJ (aF p*dV mn mx)/\iz p' (.aw p mn mx)/\Below w.heap.size w w'
theorem zi5(v:zd)(p:Pt)(mn mx:Int)(w:ze)(hT:aR w v p)(dZ:eK mn mx=true):
  zg prog 178 #[v,zc .i64 mn,zc .i64 mx] w λe w'=>Q8 w p mn mx e w':=by
 have tu:=iS p v hT
 by_cases h1:mn=1/\mx=1
 ·obtain⟨rfl,rfl⟩:=h1;obtain⟨t,x,rfl⟩:=ji hT;exact(zkg _ w t x rfl).mono λe w' h=>⟨t,x,p,h.1,aR.keep (.of h.2) p _ hT,by rw[show dV 1 1=1 from rfl,Int.mul_one,Fk tu.2],zsH p,h.2⟩
 ·have qy:∀t x,E5 t x->v=.iface t x->zg prog 178 #[v,zc .i64 mn,zc .i64 mx] w λe w'=>Q8 w p mn mx e w':=by
   intro t x ho hv;subst hv;exact(zhH t x ho mn mx w h1).mono λe w' h=>⟨_,_,.aw p mn mx,h.1,⟨_,rfl,aR.keep (.of h.2) p _ hT,dZ⟩,rfl,iz.refl _,h.2⟩
  cases p with
  |set f=>obtain⟨_,e,_⟩:=hT;exact qy _ _ (zpB _) e
  |seq l r=>obtain⟨_,_,e,_⟩:=hT;exact qy _ _ (zpA _) e
  |aQ l r=>obtain⟨_,_,e,_⟩:=hT;exact qy _ _ (zpy _) e
  |aT b g=>obtain⟨_,e,_⟩:=hT;exact qy _ _ (zpz _) e
  |aw b lH eI=>
   clear qy;have lU:=hT;obtain⟨l,rfl,hl,hb⟩:=hT;obtain⟨t,x,rfl⟩:=ji hl;have af:=(iS b _ hl).2;refine(zkh t x lH eI mn mx w h1).mono λe w' h=>?_
   by_cases hc:gK lH eI=true/\gK mn mx=true
   ·rw[aD hc]at h;refine⟨_,_,.aw b 0 (if eI<=mx then eI else mx),h.1,⟨_,rfl,aR.keep (.of h.2) b _ hl,zjW (VR hc.1 hc.2)⟩,?_,zoP hc.1 hc.2,h.2⟩;show cJ (aF b*dV 0 _)=cJ (cJ (aF b*dV lH eI)*dV mn mx);rw[Va hc.1,Va hc.2,Va (VR hc.1 hc.2),Int.mul_one,Int.mul_one,Fk af,Fk af]
   ·rw[aq hc]at h;exact⟨_,_,.aw (.aw b lH eI) mn mx,h.1,⟨_,rfl,aR.keep (.of h.2) _ _ lU,dZ⟩,rfl,iz.refl _,h.2⟩
theorem zo7(sv l:zd)(p:Pt)(mn mx:Int)(g o c:Nat)(w:ze)(c0:w.cell? ⟨g,o,zb⟩=za l)(hp:aR w l p)(dZ:eK mn mx=true):
  zg prog 157 #[zh #[zc .i64 4,sv,zc .i64 mn,zc .i64 mx,zc .i64 0],zi (za ⟨g,o,zb⟩) 1 c] w λe w'=>Q8 w p mn mx e w':=by
 have hg:g<w.heap.size:=block_lt_of_cell c0;have hR:=λ(W:ze) (hb:Below w.heap.size w W)=>zi5 l p mn mx W (aR.keep (.of hb) p l hp) dZ
 have ae:Below w.heap.size w (w.alloc (zf #[zc .i64 4,sv,zc .i64 mn,zc .i64 mx,zc .i64 0] 149)).drew:=(au).drew;clear hp dZ
 go_enter func157,ntmps157
 go_wp2
 go_region_held3 (λw'=>w'.cell? ⟨g,o,zb⟩=za l/\w'.cell? ⟨w.heap.size,2,zb⟩=za (zc .i64 mn)/\w'.cell? ⟨w.heap.size,3,zb⟩=za (zc .i64 mx)) ((first|go_keep|exact⟨(af.cell (by simp;omega)).trans ((World.cell?_of_block (Below.heap_alloc _ _ _ hg)).trans c0),(af.cell (by simp)).trans (by simp),(af.cell (by simp)).trans (by simp)⟩)) ((go_at_call 178;refine(hR _ ae).mono ?_;rintro e w2 ⟨t,x,p2,rfl,jc,gz,th,af⟩))
 go_wp2;go_ret;exact⟨t,x,p2,rfl,jc,gz,th,aj ae ae.size af⟩
def kO(w:ze)(v:zd)(t0:Pt)(wt:Int):Prop:=∃p,aR w v p/\aF p=wt/\iz p t0
theorem kO.keep{w':ze}{t0:Pt}{wt:Int}(h:kO w v t0 wt)(hk:bR w w'):kO w' v t0 wt:=by
 obtain⟨p,h1,h2⟩:=h;exact⟨p,aR.keep hk p v h1,h2⟩
theorem zq5(h1:kO w l t1 a)(h2:kO w r t2 b):kO w (.iface 256 (zh #[l,r])) (.seq t1 t2) (cJ (a+b)):=by
 obtain⟨p,hp,rfl,hi⟩:=h1;obtain⟨q,hq,rfl,hj⟩:=h2;exact⟨.seq p q,⟨l,r,rfl,hp,hq⟩,rfl,zsJ hi hj⟩
theorem zq2(h1:kO w l t1 a)(h2:kO w r t2 b):kO w (.iface 258 (zh #[l,r])) (.aQ t1 t2) (cJ (a+b)):=by
 obtain⟨p,hp,rfl,hi⟩:=h1;obtain⟨q,hq,rfl,hj⟩:=h2;exact⟨.aQ p q,⟨l,r,rfl,hp,hq⟩,rfl,zsF hi hj⟩
theorem zq3{g:Int}(h1:kO w l t1 a):kO w (.iface 264 (zh #[l,zc .i64 g])) (.aT t1 g) a:=by
 obtain⟨p,hp,rfl,hi⟩:=h1;exact⟨.aT p g,⟨l,rfl,hp⟩,rfl,zsG hi g⟩
theorem zq4{p':Pt}{mn mx:Int}(hw:aF p=a)(hi:iz p t1)(h:aR w v p')(h2:aF p'=cJ (aF p*dV mn mx))(h3:iz p' (.aw p mn mx)):kO w v (.aw t1 mn mx) (cJ (a*dV mn mx)):=
 ⟨p',h,by rw[h2,hw],h3.trans (zsI hi mn mx)⟩
theorem zgT(c:Nat):∀(rs:List (Int×Int)) (f:Nat->Bool),(rs.foldl (λf r=>Fs f r.1 r.2) f) c=(f c || jJ rs c)
 |[],f=>by simp[jJ]
 |r::rs,f=>by
  rw[List.foldl_cons,zgT c rs];simp[Fs,jJ,Bool.or_assoc]
theorem znq(rs:List (Int×Int))(c:Nat):uX rs c=jJ rs c:=by
 unfold uX;rw[zgT]
 rfl
theorem zmb{mg:Nat}{rs:List (Int×Int)}(h:w.heap[mg]?=za (zf (dv (uX rs)) 293 (0,0))):kO w (.iface 297 (zh #[zj (za ⟨mg,0,zb⟩)])) (.set (jJ rs)) 1:=
 ⟨.set (uX rs),⟨mg,rfl,h⟩,rfl,by rw[show uX rs=jJ rs from funext λc=>znq rs c];exact iz.refl _⟩
def r8(w:ze)(xs:List zd)(st:List Int)(ts:List Pt):Prop:=xs.length=st.length/\(∀j,j<st.length->∃t x,xs[j]?=za (.iface t x)/\kO w (.iface t x) (ts.getD j kj) (st.getD j 0))/\ts.length=st.length
theorem PH{base:Nat}{e:zk}{sz:Nat}(h:w.ownsRow base e sz (zi (za ⟨g,0,zb⟩) n cap) n xs):∃aA,w.heap[g]?=za (zf aA e (0,0)):=by
 rcases h.2 with ⟨h0,_⟩|⟨g',cap',aA,hv,_,hh,_⟩
 ·cases h0
 ·cases hv;exact⟨aA,hh⟩
theorem tP{w4:ze}(hw:Below wr.heap.size wr w4)(az:w4.ownsRow B 184 1 (zi (za ⟨g,0,zb⟩) n cap) n xs)(hg:w4.grownBy w5 (za g)):bR wr w5:=by
 obtain⟨aA,hr⟩:=PH az;exact(bR.of hw).trans (bR.grown hg hr (by decide))
theorem tn1(rs:List (Int×Int))(ops:List Pt):fY ⟨1,rs,0,0,0⟩ ops=.set (jJ rs):=rfl
theorem tn2(ops:List Pt):fY ⟨2,[],0,0,0⟩ ops=.seq (ops.getD 0 kj) (ops.getD 1 kj):=rfl
theorem tn3(ops:List Pt):fY ⟨3,[],0,0,0⟩ ops=.aQ (ops.getD 0 kj) (ops.getD 1 kj):=rfl
theorem tn4(mn mx:Int)(ops:List Pt):fY ⟨4,[],mn,mx,0⟩ ops=.aw (ops.getD 0 kj) mn mx:=rfl
theorem tn5(g:Int)(ops:List Pt):fY ⟨5,[],0,0,g⟩ ops=.aT (ops.getD 0 kj) g:=rfl
theorem wn1(rs:List (Int×Int))(ops:List Int):kL ⟨1,rs,0,0,0⟩ ops=1:=rfl
theorem wn2(ops:List Int):kL ⟨2,[],0,0,0⟩ ops=cJ (ops.getD 0 0+ops.getD 1 0):=rfl
theorem wn3(ops:List Int):kL ⟨3,[],0,0,0⟩ ops=cJ (ops.getD 0 0+ops.getD 1 0):=rfl
theorem wn4(mn mx:Int)(ops:List Int):kL ⟨4,[],mn,mx,0⟩ ops=cJ (ops.getD 0 0*dV mn mx):=rfl
theorem wn5(g:Int)(ops:List Int):kL ⟨5,[],0,0,g⟩ ops=ops.getD 0 0:=rfl
theorem Ih(ts:List Pt)(m:Nat):(ts.drop m).getD 0 kj=ts.getD m kj/\(ts.drop m).getD 1 kj=ts.getD (m+1) kj:=by
 simp[List.getD_eq_getElem?_getD,List.getElem?_drop]
theorem Ia{ns:List aM}{k m ar:Nat}{st:List Int}{nd:aM}{t:zk}{x:zd}{g' cap':Nat}(hst:st.length=m+ar)(eB:bi nd.kind=ar)(ha:kL nd (st.drop m)=a)
  (fV:r8 wr xs st (gB ns k)) (hk:bR wr w5) (hn:ns.getD k .zero=nd) (hp:kO w5 (.iface t x) (fY nd ((gB ns k).drop m)) a)
  (rK:st.length<=k) (jv:w5.ownsRow B 184 1 (zi (za ⟨g',0,zb⟩) (m+1) cap') (m+1) (xs.take m++[.iface t x])) (HS:mH ns []=mH (ns.drop k) st) (HD:mH (ns.drop k) st=mH (ns.drop (k+1)) (xY st nd)):
  ∃(kE:List Int) (xs':List zd),m+1=kE.length/\w5.ownsRow B 184 1 (zi (za ⟨g',0,zb⟩) kE.length cap') kE.length xs'/\r8 w5 xs' kE (gB ns (k+1))/\kE.length<=k+1/\Hid (mH ns []=mH (ns.drop (k+1)) kE):=by
 have hw:xY st nd=st.take m++[a]:=by
  unfold xY;rw[eB,hst,Dk,ha]
 have hl:(st.take m++[a]).length=m+1:=by simp;omega
 have rQ:gB ns (k+1)=(gB ns k).take m++[fY nd ((gB ns k).drop m)]:=by
  rw[gB,hn,PY,eB,fV.2.2,hst,Dk]
 have AH:=fV.1;have hlt:=fV.2.2;refine⟨st.take m++[a],xs.take m++[.iface t x],hl.symm,by rw[hl];exact jv,⟨by simp;omega,λj hj=>?_,by rw[rQ];simp;omega⟩,by omega,?_⟩
 ·rw[hl]at hj;rw[rQ]
  by_cases e:j=m
  ·subst e;refine⟨t,x,?_,?_⟩
   ·rw[vo (by simp;omega)];rw[List.length_take,IL (by omega),zz];rfl
   ·have e1:(st.take j++[a]).getD j 0=a:=by
     rw[cL,vo (by simp;omega)];simp[Nat.min_eq_left (show j<=st.length by omega)]
    have e2:((gB ns k).take j++[fY nd ((gB ns k).drop j)]).getD j kj=fY nd ((gB ns k).drop j):=by
     rw[cL,vo (by simp;omega)];simp[Nat.min_eq_left (show j<=(gB ns k).length by omega)]
    rw[e1,e2];exact hp
  ·obtain⟨t',x',h1,h2⟩:=fV.2.1 j (by omega);refine⟨t',x',?_,?_⟩
   ·rw[qR (by simp;omega),Bw,aD (by omega)];exact h1
   ·have e1:(st.take m++[a]).getD j 0=st.getD j 0:=by
     rw[cL,qR (by simp;omega),Bw,aD (by omega),cL]
    have e2:((gB ns k).take m++[fY nd ((gB ns k).drop m)]).getD j kj=(gB ns k).getD j kj:=by
     rw[cL,qR (by simp;omega),Bw,aD (by omega),cL]
    rw[e1,e2];exact h2.keep hk
 ·show _=_;rw[HS,HD,hw]
end Go.Proofs.YtdimhpfiieepiaaGreatDoor
