import Derived.Test.YtdimhpfiieepiaaGreatDoorC47
import Derived.BigQuiet
namespace Go.Proofs.YtdimhpfiieepiaaGreatDoor
open Proofs.Tryz
open Value renaming int->za,slice->ze,agg->aa,pointer->zk
open Option renaming none->zb,some->zd
open Obj renaming cells->zc
open Go renaming World->zf,Value->ab,Calls->zl,TypeId->zm
open RowKit renaming Hid->zg,Below->zj
set_option maxHeartbeats 2000000
set_option maxRecDepth 100000
section
variable {r:bL}{b g2 lo:Nat}{cl:Bool}{a i:Int}{X:zf}
open Go.RowKit
attribute [local go_sem ↓] wp_at_zero wp_at_succ
theorem oL.start{t:ByteArray}(eU:iM r=true)(ht:t.size<=4096)(hb:b<=t.size)(h:oL r.branches t b cl r.branches.length a):Dh r t b cl a:=by
 have key:∀k:Nat,k<=b->(sj r.dG r.branches t k b cl↔∃j,j<r.branches.length/\iu (r.branches.getD j .zero) t k b cl):=λk hk=>by
  unfold sj;have h1:nD r.dG r.branches t k b=true:=by
   unfold nD;rw[show gD r.dG r.branches=true from eU];simp;omega
  rw[h1];simp
 rcases h with ⟨h1,h2⟩|⟨k,h1,h2,h3,h4⟩
 ·refine .inl ⟨h1,λk hk hs=>?_⟩;obtain⟨j,hj,hb⟩:=(key k hk).1 hs;exact h2 k hk j hj hb
 ·refine .inr ⟨k,h1,h2,(key k h2).2 h3,λj hj hs=>?_⟩;obtain⟨j',hj',hb⟩:=(key j (by omega)).1 hs;exact h4 j hj j' hj' hb
theorem zoj{G:Nat}(hG:r.dG=G)(eU:iM r=true){t:ByteArray}(ht:t.size<=4096){a b:Nat}(yL:a<=b)(hb:b<=t.size){cl:Bool}{sp:List (Int×Int)}(h:Xo G r.branches t a b cl sp):Bx r.dG r.branches t a b cl sp:=by
 have TK:nD r.dG r.branches t a b=true:=by
  unfold nD;rw[show gD r.dG r.branches=true from eU];simp;omega
 have ea:(a:Int).toNat=a:=by omega
 have ee:(b:Int).toNat=b:=by omega
 rcases h with ⟨h1,h2⟩|⟨k,h1,h2,h3,l,h4,h5⟩
 ·refine .inl ⟨λhp=>?_,h2⟩;obtain⟨_,k,hk,hb⟩:=hp;rw[ea,ee]at hb;exact h1 k hk hb
 ·refine .inr ⟨TK,k,h1,?_,?_,l,?_,?_⟩
  ·rw[ea,ee];exact h2
  ·rw[ea,ee];exact h3
  ·rw[ea,ee];exact h4
  ·rw[h5,hG,show (G:Int).toNat=G from by omega]
theorem zts(eU:iM r=true){G:Nat}(hG:r.dG=G){t:ByteArray}(ht:t.size<=4096){a e:Nat}(Gu:a<=e)(GD:e<=t.size):∀k,k<r.branches.length->∀l,Pl t.data.toList (aK (r.branches.getD k .zero).nodes ((r.branches.getD k .zero).nodes.length-1)) a e l->∀x∈l,1<=x.1/\x.1<((G+1:Nat):Int):=λk hk l hl x hx=>by
 have TK:nD r.dG r.branches t a e=true:=by
  unfold nD;rw[show gD r.dG r.branches=true from eU];simp;omega
 obtain⟨s1,s2⟩:=zmF TK hk;obtain⟨p1,p2⟩:=O8 _ s1;have fL:=(WD (r.branches.getD k .zero).nodes p2 s2 ((r.branches.getD k .zero).nodes.length-1) (by omega)).2;have h1:=C9 _ _ _ _ hl x hx;have h3:=zhh (show gD r.dG r.branches=true from eU) _ (VG r.branches k hk _ (fL _ h1));omega
theorem zoi(i a b:Int):prog.built 35 [(0,za .i64 1),(1,za .i64 i),(2,za .i64 a),(3,za .i64 b)]=zd #[za .i64 1,za .i64 i,za .i64 a,za .i64 b,ze zb 0 0]:=by kernel_rfl
def QT(W:zf)(gq:Nat)(r:bL)(t:ByteArray)(cl:Bool)(i:Int)(b:Nat)(e:Ending)(W':zf):Prop:=
 ∃(a:Int) (sp:List (Int×Int)) (v:ab),Dh r t b cl a/\Bg r t a b cl sp/\e=.returned (aa #[za .i64 1,za .i64 i,za .i64 a,za .i64 b,v])/\W'.ownsRow W.heap.size 71 2 v sp.length (pv sp)/\aE (· = gq) W W'
def AY(X:zf)(g2 g:Nat)(i a b:Int)(v:ab):zf:=(((((X.setCell ⟨g2,4,zb⟩ v).setCell ⟨g,0,zb⟩ (za .i64 1)).setCell ⟨g,1,zb⟩ (za .i64 i)).setCell ⟨g,2,zb⟩ (za .i64 a)).setCell ⟨g,3,zb⟩ (za .i64 b)).setCell ⟨g,4,zb⟩ v
theorem zro{g:Nat}{b:Int}{v:ab}{k:Nat}(h1:k≠g2)(h2:k≠g):(AY X g2 g i a b v).heap[k]?=X.heap[k]?:=by
 unfold AY;rw[cu _ _ _ _ h2,cu _ _ _ _ h2,cu _ _ _ _ h2,cu _ _ _ _ h2,cu _ _ _ _ h2,cu _ _ _ _ h1]
theorem aE.put{S:Nat->Prop}{w A:zf}(h:aE S w A){b o:Nat}{v:ab}(hb:S b\/w.heap.size<=b):aE S w (A.setCell ⟨b,o,zb⟩ v):=h.grown (jf A b o v) (λk e=>by cases e;exact hb)
theorem zpk{W:zf}{gq:Nat}{B:ByteArray}{ao:Option Addr}{m c:Nat}{sp:List (Int×Int)}(tX:aE (· = gq) W X)(hst:Dh r B b cl a)(hsp:Bg r B a b cl sp)(ho:X.ownsRow lo 71 2 (.slice ao m c) sp.length (pv sp))(h1:W.heap.size<=g2)(h2:g2<lo)(h3:W.heap.size<lo):
  QT W gq r B cl i b (.returned (aa #[za .i64 1,za .i64 i,za .i64 a,za .i64 b,.slice ao m c])) (AY X g2 W.heap.size i a b (.slice ao m c)):=by
 have CC:(AY X g2 W.heap.size i a b (.slice ao m c)).ownsRow lo 71 2 (.slice ao m c) sp.length (pv sp):=kH ho λk e=>by
  have:=(iD ho e).1;exact zro (by omega) (by omega)
 have ht:aE (· = gq) W (AY X g2 W.heap.size i a b (.slice ao m c)):=by
  unfold AY;exact(((((tX.put (.inr h1)).put (.inr (ai _))).put (.inr (ai _))).put (.inr (ai _))).put (.inr (ai _))).put (.inr (ai _))
 exact⟨a,sp,.slice ao m c,hst,hsp,rfl,qO CC (by omega),ht⟩
theorem zpl(w W:zf)(ed:zj w.heap.size w W)(bf gs gq i:Nat)(SN:w.heap.size<=gq)(L:Int)(B:ByteArray)(cl:Bool)(q:Int)(b:Nat)(r:bL)(G:Nat)(hG:r.dG=G)(eU:iM r=true)(jH:Option Addr)(jI:Nat)(hs:eh lo w (.slice jH r.branches.length jI) r.branches)(hB:B.size<=4096)(hb:b<=B.size)(sV:fG w)(hne:gs≠gq)(Er:gq<W.heap.size)(hlen:r.branches.length<=100000)
  (oW:W.heap[gs]?=zd (zc (oc L B cl q b) 32 (0,0)))
  (Ep:zl prog 101 #[zk (zd ⟨bf,0,zb⟩),za .i64 i] (W.alloc (zc #[za .i64 0,za .i64 0,za .i64 0,za .i64 0,ze zb 0 0] 35)) λe W'=>Q7 (W.alloc (zc #[za .i64 0,za .i64 0,za .i64 0,za .i64 0,ze zb 0 0] 35)) gq i G jH jI r.branches e W'):
  zl prog 74 #[zk (zd ⟨bf,0,zb⟩),zk (zd ⟨gs,0,zb⟩),za .i64 i] W λe W'=>QT W gq r B cl i b e W':=by
 have gX:=qa sV;obtain⟨W0,ah⟩:∃W0,W.alloc (zc #[za .i64 0,za .i64 0,za .i64 0,za .i64 0,ze zb 0 0] 35)=W0:=⟨_,rfl⟩;have pH:zj W.heap.size W W0:=by rw[<-ah];exact au
 have xW:W0.heap[W.heap.size]?=zd (zc #[za .i64 0,za .i64 0,za .i64 0,za .i64 0,ze zb 0 0] 35 (0,0)):=by rw[<-ah];exact aL _ _
 rw[ah]at Ep;have fC:=(ap.1 oW).1;have fU:prog.follows .mixedOrders=true:=by kernel_rfl
 go_enter func74,ntmps74
 go_wp2_with fail
 refine Ep.mono ?_;rintro e W1 ⟨pl,Q,vP,ps,wB,rfl,hN,du,hE,A6,hqB⟩;have tx:=ed.size;have Sc:=pH.size;have zxY:=(ap.1 xW).1;have hBs:=A6.size;have xe:zj w.heap.size w wB:=⟨A6.os.trans (pH.os.trans ed.os),A6.tape.trans (pH.tape.trans ed.tape),A6.output.trans (pH.output.trans ed.output),by omega,λk hk=>(A6.same k (by omega) (by show ¬k=gq;omega)).trans ((pH.block k (by omega)).trans (ed.block k hk))⟩;have hBB:fG wB:=sV.keep (xe.block 0 gX);have RU:=hN.start hBB;have sB:wB.heap[gs]?=zd (zc (oc L B cl q b) 32 (0,0)):=(A6.same gs (by omega) hne).trans ((pH.block gs fC).trans oW);have xB:wB.heap[W.heap.size]?=zd (zc #[za .i64 0,za .i64 0,za .i64 0,za .i64 0,ze zb 0 0] 35 (0,0)):=(A6.same _ zxY (by show ¬W.heap.size=gq;omega)).trans xW;have gE:zg (∀X,zj wB.heap.size wB X->X.heap[gs]?=zd (zc (oc L B cl q b) 32 (0,0))/\X.heap[W.heap.size]?=zd (zc #[za .i64 0,za .i64 0,za .i64 0,za .i64 0,ze zb 0 0] 35 (0,0))):=λX hX=>⟨cB sB hX,cB xB hX⟩
 have wT:zg (∀X,zj wB.heap.size wB X->aE (· = gq) W X):=λX hX=>((aE.cH pH).trans A6).trans (.cH hX)
 have Eo:=eU;have Nz:G<=500:=by
  unfold iM gD at Eo;simp only[dE,oD]at Eo;omega
 have XC:=aY RU;have HN:=aY hN;have HE:=aY hE;have Hs:=aY hs;obtain⟨c0,c1,c2,c3,c4⟩:=eW (gE.out W1 hN.kd.bj).1;have Of:=λnq:Nat=>ziM w wB xe r.branches jH jI hs hlen (za .i64 (G:Int)) pl Q vP ps W1 hN du B hB b hb cl hE _ (W1.drewN nq) (RU.below (below_drewN (Below.refl _ _) nq))
 have H1:zg (zj wB.heap.size wB W1):=hN.kd.bj;clear Ep hN hE hs RU A6 hqB sB xB oW xW Eo ah pH
 go_upto_region 3 with fail
 refine xM 10 (λw'=>∃nq,w'=W1.drewN nq) fU ⟨1,rfl⟩ (by decide) (by kernel_rfl) ?_;intro os ck;simp only[nE,tV]at ck;subst ck
 repeat (go_big_quiet_step (fail))
 refine wpQuiet_nil ?_;rintro w' ⟨nq,rfl⟩ r' bZ;simp only[wM,wN]at bZ;subst bZ
 go_wp2_with fail
 refine(Of nq).mono ?_;rintro x2 W2 ⟨a,pC,rfl,xa,nP⟩;have kw:=aY (xa.start eU hB hb);have IU:=aY nP.inv;have kN:=aY (HN.out.bj nP.inv);clear Of xa nP c0 c1 c2 c3 c4;obtain⟨W3,ff⟩:∃W3,W2.alloc (zc #[za .i64 1,za .i64 i,za .i64 a,za .i64 b,ze zb 0 0] 35)=W3:=⟨_,rfl⟩;have ay:zj W2.heap.size W2 W3:=by rw[<-ff];exact au
 have x3:W3.heap[W2.heap.size]?=zd (zc #[za .i64 1,za .i64 i,za .i64 a,za .i64 b,ze zb 0 0] 35 (0,0)):=by rw[<-ff];exact aL _ _
 have MC:=aY (IU.out.below ay);have yi:=aY (aj kN.out kN.out.size ay);have I4:=aY ff;have jN:=zoi (i:Int) a (b:Int);have mh:=(ap.1 x3).1;have zAx:=kN.out.size;clear ff
 go_upto_region 5 with fail
 rw[I4.out];clear I4 jN;have ML:zg (∀X,zj wB.heap.size wB X->∀(ao:Option Addr) (m c:Nat) (sp:List (Int×Int)),X.ownsRow W3.heap.size 71 2 (.slice ao m c) sp.length (pv sp)->Bg r B a b cl sp->QT W gq r B cl i b (.returned (aa #[za .i64 1,za .i64 i,za .i64 a,za .i64 b,.slice ao m c])) (AY X W2.heap.size W.heap.size i a b (.slice ao m c))):=λX hX ao m c sp ho hsp=>zpk (wT.out X hX) kw.out hsp ho (by omega) (by omega) (by omega)
 have FY:=aY kw.out;clear kw;rcases FY.out with ⟨rfl,-⟩|⟨k,rfl,im,-⟩
 ·obtain⟨⟨room,h1⟩,-⟩:=HN.out.cells MC.out;have hno:=zh3 pl G _ _ _ W3 h1 Nz;clear h1
  go_wp2_with fail
  refine hno.mono ?_;rintro x4 W4 ⟨g4,rfl,-,jS,aG⟩;have pG:=aj yi.out yi.out.size aG;have x4:=cB x3 aG;have q4:=cF _ _ 4 _ _ x4;have y4:=cm x4;have z4:=cm (gE.out W4 pG).2;have z5:∀o,W4.frozen? ⟨W.heap.size,o,zb⟩=false:=λo=>cF _ _ o _ _ (gE.out W4 pG).2
  have n1:W.heap.size≠W2.heap.size:=by omega
  have n2:W2.heap.size≠W.heap.size:=by omega
  have HF:=aY (ML.out W4 pG (zd ⟨g4,0,zb⟩) (G+1) (G+1) (gM (-1,-1) G) (by
   rw[C8];have e:gM ((-1:Int),(-1:Int)) G=List.replicate (G+1) (-1,-1):=by simp[gM,List.replicate_succ]
   rw[e];exact jS) (.inl ⟨rfl,by rw[hG];rfl⟩))
  unfold AY at HF;have hGi:((G:Int)+1)=((G+1:Nat):Int):=by omega
  clear hno jS ML HN HE Hs XC IU MC kN yi x4 x3 FY gE wT;go_wp2;exact bD (v:=aa #[za .i64 1,za .i64 i,za .i64 (-1),za .i64 b,ze (zd ⟨g4,0,zb⟩) (G+1) (G+1)]) (by simp[results,results74,go_sem,z4]) rfl HF.out
 ·have rJ:=λnq:Nat=>zkW w wB xe r.branches jH jI Hs.out hlen G Nz pl Q vP ps W1 HN.out du B hB k b im hb cl HE.out (zts eU hG hB im hb) _ (W3.drewN nq) (MC.out.below (below_drewN (Below.refl _ _) nq))
  have cM:((k:Int) == -1)=false:=by simp
  obtain⟨c0,c1,c2,c3,c4⟩:=eW (gE.out W3 yi.out).1
  go_upto_region 7 with fail
  refine xM 11 (λw'=>∃nq,w'=W3.drewN nq) fU ⟨1,rfl⟩ (by decide) (by kernel_rfl) ?_;intro os ck;simp only[nE,tV]at ck;subst ck
  repeat (go_big_quiet_step (fail))
  refine wpQuiet_nil ?_;rintro w' ⟨nq,rfl⟩ r' bZ;simp only[wM,wN]at bZ;subst bZ
  go_wp2_with fail
  refine(rJ nq).mono ?_;rintro x5 W5 ⟨sp,v5,Ow5,hq5,rfl,pT,JU,zyd⟩;obtain⟨so,sm,sc,rfl⟩:∃so sm sc,v5=.slice so sm sc:=by
   rcases pT.2 with ⟨e,_⟩|⟨g,c,_,e,_⟩
   ·exact⟨_,_,_,e⟩
   ·exact⟨_,_,_,e⟩
  have RM:=HN.out.bj JU.inv;have x5:=(JU.eG W2.heap.size IU.out.size mh (λb ho=>by have:=(IU.out.ow _ b ho).2;omega)).1.trans x3;have q4:=cF _ _ 4 _ _ x5;have y4:=cm x5;have z4:=cm (gE.out W5 RM).2;have z5:∀o,W5.frozen? ⟨W.heap.size,o,zb⟩=false:=λo=>cF _ _ o _ _ (gE.out W5 RM).2
  have n1:W.heap.size≠W2.heap.size:=by omega
  have n2:W2.heap.size≠W.heap.size:=by omega
  have HF:=aY (ML.out W5 RM so sm sc sp pT (.inr ⟨by omega,zoj hG eU hB im hb hq5⟩));unfold AY at HF;clear rJ pT ML HN HE Hs XC IU MC kN yi x5 x3 FY gE wT c0 c1 c2 c3 c4 JU zyd hq5;go_wp2;exact bD (v:=aa #[za .i64 1,za .i64 i,za .i64 k,za .i64 b,.slice so sm sc]) (by simp[results,results74,go_sem,z4]) rfl HF.out
end
theorem PC{P:Nat->Prop}{i j k k':Nat}(h:nF P i j k)(h':nF P i j k'):k=k':=by
 rcases Bn k k' with e|e|e
 ·exact absurd h'.2.2.1 (h.2.2.2 k' e h'.2.1)
 ·exact e
 ·exact absurd h.2.2.1 (h'.2.2.2 k e h.2.1)
theorem zsE{L:Nat->Nat->Prop}{R:Nat->Nat->List Up->Prop}{C:Nat->Int->Nat->Nat->Prop}(hR:∀i j l l',R i j l->R i j l'->l=l'){mn:Nat}{mx:Int}{i j:Nat}{l:List Up}(h:ie L R C mn mx i j l):∀l',ie L R C mn mx i j l'->l=l':=by
 induction h with
 |done i j=>
  intro l' h';cases h' with
  |done=>rfl
  |out _ _ _ h=>exact absurd h (by decide)
  |may _ _ _ _ _ _ h=>exact absurd h (by decide)
 |pk i=>
  intro l' h';cases h' with
  |pk=>rfl
  |out _ _ _ h=>exact absurd h (by decide)
  |may _ _ _ _ _ _ h=>exact absurd h (by decide)
  |more _ _ _ _ _ h=>exact absurd h (Nat.lt_irrefl _)
 |out mx i j hm hn=>
  intro l' h';cases h' with
  |done=>rfl
  |pk=>rfl
  |out=>rfl
  |may _ _ _ k _ _ _ g=>exact absurd g.2.2.1 (hn k g.1 g.2.1)
  |more=>exact absurd hm (by decide)
 |must mn mx i j k l1 l2 g h1 h2 ih=>
  intro l' h';cases h' with
  |must _ _ _ _ k' G4 OB g' Ak Al=>
   obtain rfl:=PC g g';rw[hR _ _ _ _ h1 Ak,ih _ Al]
 |may mx i j k l1 l2 hm g h1 h2 ih=>
  intro l' h';cases h' with
  |done=>exact absurd hm (by decide)
  |pk=>exact absurd hm (by decide)
  |out _ _ _ _ hn=>exact absurd g.2.2.1 (hn k g.1 g.2.1)
  |may _ _ _ k' G4 OB _ g' Ak Al=>
   obtain rfl:=PC g g';rw[hR _ _ _ _ h1 Ak,ih _ Al]
  |more=>exact absurd hm (by decide)
 |more i j k l1 l2 hi g h1 h2 ih=>
  intro l' h';cases h' with
  |pk=>exact absurd hi (Nat.lt_irrefl _)
  |out _ _ _ h=>exact absurd h (by decide)
  |may _ _ _ _ _ _ h=>exact absurd h (by decide)
  |more _ _ k' G4 OB _ g' Ak Al=>
   obtain rfl:=PC g g';rw[hR _ _ _ _ h1 Ak,ih _ Al]
theorem Fp{u:aJ}:∀(p:Pt) (i j:Nat) (l l':List Up),Pl u p i j l->Pl u p i j l'->l=l'
 |.set _,_,_,l,l',h,h'=>by have h:l=[]:=h;have h':l'=[]:=h';rw[h,h']
 |.aT b g,i,j,l,l',⟨m,e,h⟩,⟨m',e',h'⟩=>by rw[e,e',Fp b i j m m' h h']
 |.seq p q,i,j,l,l',⟨k,l1,l2,g,h1,h2,e⟩,⟨k',G4,OB,g',Ak,Al,e'⟩=>by
  obtain rfl:=PC g g';rw[e,e',Fp p i k l1 G4 h1 Ak,Fp q k j l2 OB h2 Al]
 |.aQ p q,i,j,l,l',h,h'=>by
  rcases h with ⟨a,h⟩|⟨a,h⟩<;>rcases h' with ⟨a',h'⟩|⟨a',h'⟩
  ·exact Fp p i j l l' h h'
  ·exact absurd a a'
  ·exact absurd a' a
  ·exact Fp q i j l l' h h'
 |.aw b mn mx,i,j,l,l',h,h'=>zsE (Fp b) (show ie (Lg u b) (Pl u b) (λmn mx i j=>Lg u (.aw b mn mx) i j) mn.toNat mx i j l from h) l' h'
theorem zqH{G:Int}{bs:List aW}{t:ByteArray}{a e:Int}{cl:Bool}{r r':List (Int×Int)}(h:Bx G bs t a e cl r)(h':Bx G bs t a e cl r'):r=r':=by
 rcases h with ⟨h1,h2⟩|⟨h1,k,h2,h3,h4,l,h5,h6⟩<;>rcases h' with ⟨g1,g2⟩|⟨g1,k',g2,g3,g4,l',g5,g6⟩
 ·rw[h2,g2]
 ·exact absurd ⟨g1,k',g2,g4⟩ h1
 ·exact absurd ⟨h1,k,h2,h4⟩ g1
 ·have ek:k=k':=by
   rcases Bn k k' with e|e|e
   ·exact absurd h4 (g3 k e)
   ·exact e
   ·exact absurd g4 (h3 k' e)
  subst ek;rw[h6,g6,Fp _ _ _ _ _ h5 g5]
section
variable {r:bL}{t:ByteArray}{b:Nat}{cl:Bool}{a:Int}
theorem znX{a':Int}(h:Dh r t b cl a)(h':Dh r t b cl a'):a=a':=by
 rcases h with ⟨h1,h2⟩|⟨k,h1,h2,h3,h4⟩<;>rcases h' with ⟨g1,g2⟩|⟨k',g1,g2,g3,g4⟩
 ·rw[h1,g1]
 ·exact absurd g3 (h2 k' g2)
 ·exact absurd h3 (g2 k h2)
 ·rw[h1,g1];rcases Bn k k' with e|e|e
  ·exact absurd h3 (g4 k e)
  ·rw[e]
  ·exact absurd g3 (h4 k' e)
theorem znW{l l':List (Int×Int)}(h:Bg r t a b cl l)(h':Bg r t a b cl l'):l=l':=by
 rcases h with ⟨h1,h2⟩|⟨h1,h2⟩<;>rcases h' with ⟨g1,g2⟩|⟨g1,g2⟩
 ·rw[h2,g2]
 ·omega
 ·omega
 ·exact zqH h2 g2
theorem zpu{rs:List bL}{d:bG}{s s1 s2:eE}{x1 x2:ku}(h:oN rs d s s1 x1)(h':oN rs d s s2 x2):s1=s2/\x1=x2:=by
 rcases h with ⟨h0,h1,h2⟩|⟨h0,b,h1,h2,h3,h4,a,sp,h5,h6,h7,h8⟩|⟨h0,h1,h2,h3⟩<;>rcases h' with ⟨g0,g1,g2⟩|⟨g0,b',g1,g2,g3,g4,a',OP,g5,g6,g7,g8⟩|⟨g0,g1,g2,g3⟩
 ·exact⟨h1.trans g1.symm,h2.trans g2.symm⟩
 ·rw[h0]at g0;cases g0
 ·rw[h0]at g0;cases g0
 ·rw[h0]at g0;cases g0
 ·have e:b=b':=by
   rcases Bn b b' with e|e|e
   ·have:=g3 b h1 e;omega
   ·exact e
   ·have:=h3 b' g1 e;omega
  subst e;obtain rfl:=znX h5 g5;obtain rfl:=znW h6 g6;exact⟨h7.trans g7.symm,h8.trans g8.symm⟩
 ·have:=g1 b h1 h2;omega
 ·rw[h0]at g0;cases g0
 ·have:=h1 b' g1 g2;omega
 ·exact⟨h2.trans g2.symm,h3.trans g3.symm⟩
end
section
open Go.RowKit
attribute [local go_sem ↓] wp_at_zero wp_at_succ
def PZ(g:Nat)(w:zf):Nat:=match w.cell? ⟨g,4,zb⟩with
 |some (.int _ i)=>i.toNat
 |_=>0
theorem zmC{g:Nat}{w:zf}{L:Int}{B:ByteArray}{C:Bool}{S N:Int}(h:w.heap[g]?=zd (zc (oc L B C S N) 32 (0,0))):PZ g w=N.toNat:=by
 have:w.cell? ⟨g,4,zb⟩=zd (za .i64 N):=cm h 4;unfold PZ;rw[this]
section
variable {w W W':zf} {rv cv bv fv tv ev nv kv:ab} {wd:Int} {rs:List bL} {bf g cap gq:Nat} {vs:List ab}
theorem wP.below(h:wP w rv cv bv fv tv ev nv kv wd rs bf g cap gq vs W)(hb:zj W.heap.size W W'):wP w rv cv bv fv tv ev nv kv wd rs bf g cap gq vs W':=
 ⟨aj h.bj h.bj.size hb,h.Ro,h.JF,cB h.box hb,cI h.own hb,h.OK.below hb,cB h.qs hb⟩
theorem wP.turn(h:wP w rv cv bv fv tv ev nv kv wd rs bf g cap gq vs W){gs:Nat}{cs:Array ab}(hg:W.heap[gs]?=zd (zc cs 32 (0,0)))(uE:w.heap.size<=gs)(tc:aE (· = gs) W W'):wP w rv cv bv fv tv ev nv kv wd rs bf g cap gq vs W':=by
 have keep:∀(k:Nat) (c:Array ab) (t:zm),W.heap[k]?=zd (zc c t (0,0))->t≠32->W'.heap[k]?=zd (zc c t (0,0)):=λk c t e ht=>(tc.same k (ap.1 e).1 (λe2=>by
  have e2:k=gs:=e2;rw[e2,hg]at e;exact ht (bP e).symm)).trans e
 have hs:=h.bj.size;refine⟨⟨tc.os.trans h.bj.os,tc.tape.trans h.bj.tape,tc.output.trans h.bj.output,aU hs tc.size,λk hk=>(tc.same k (by omega) (by show ¬k=gs;omega)).trans (h.bj.block k hk)⟩,h.Ro,h.JF,keep _ _ _ h.box (by decide),kH h.own λk e=>?_,h.OK.keep tc.size λk c t e ht=>keep k c t e (by rcases ht with rfl|rfl<;>decide),keep _ _ _ h.qs (by decide)⟩;obtain⟨_,aA,z⟩:=iD h.own e;exact(keep _ _ _ z (by decide)).trans z.symm
end
def QW(W:zf)(gs gq:Nat)(rs:List bL)(d:bG)(s:eE)(e:Ending)(W':zf):Prop:=
 ∃(s':eE) (x:ku) (v:ab),oN rs d s s' x/\e=.returned (jq x v)/\W'.heap[gs]?=zd (zc (oc s'.L s'.B s'.C s'.S s'.N) 32 (0,0))/\W'.ownsRow W.heap.size 71 2 v x.gA.length (pv x.gA)/\aE (λk=>k=gs\/k=gq) W W'
def zo(X:zf)(g:Nat)(a b c d:Int)(v:ab):zf:=((((X.setCell ⟨g,0,zb⟩ (za .i64 a)).setCell ⟨g,1,zb⟩ (za .i64 b)).setCell ⟨g,2,zb⟩ (za .i64 c)).setCell ⟨g,3,zb⟩ (za .i64 d)).setCell ⟨g,4,zb⟩ v
theorem zmB{X:zf}{g:Nat}{a b c d:Int}{v:ab}{k:Nat}(h:k≠g):(zo X g a b c d v).heap[k]?=X.heap[k]?:=by
 unfold zo;rw[cu _ _ _ _ h,cu _ _ _ _ h,cu _ _ _ _ h,cu _ _ _ _ h,cu _ _ _ _ h]
theorem zmo{W X:zf}{gs gq:Nat}{rs:List bL}{d:bG}{s s':eE}{x:ku}{v:ab}(hx:oN rs d s s' x)(hl:gs<W.heap.size)(hg:X.heap[gs]?=zd (zc (oc s'.L s'.B s'.C s'.S s'.N) 32 (0,0))){lo:Nat}(uE:W.heap.size<lo)(ho:X.ownsRow lo 71 2 v x.gA.length (pv x.gA))(tX:aE (λk=>k=gs\/k=gq) W X):
  QW W gs gq rs d s (.returned (jq x v)) (zo X W.heap.size x.kind x.rule x.start x.fin v):=by
 have ht:aE (λk=>k=gs\/k=gq) W (zo X W.heap.size x.kind x.rule x.start x.fin v):=by
  unfold zo;exact((((tX.put (.inr (ai _))).put (.inr (ai _))).put (.inr (ai _))).put (.inr (ai _))).put (.inr (ai _))
 have CC:(zo X W.heap.size x.kind x.rule x.start x.fin v).ownsRow lo 71 2 v x.gA.length (pv x.gA):=kH ho λk e=>by
  have:=(iD ho e).1;exact zmB (by omega)
 exact⟨s',x,v,hx,rfl,(zmB (by omega)).trans hg,qO CC (by omega),ht⟩
theorem zhO(i:Int):prog.built 35 [(0,za .i64 i)]=zd #[za .i64 i,za .i64 0,za .i64 0,za .i64 0,ze zb 0 0]:=by kernel_rfl
theorem zoL(xs:Array ab)(w:zf):(callFunc 76 xs).run prog w=.ok (.enter 76 xs) w:=by kernel_rfl
theorem zrq{lo:Nat}(w W:zf)(bf g cap gq gs:Nat)(vs:List ab)(ao:Option Addr)(rc:Nat)(cv bv fv tv ev nv kv:ab)(rs:List bL)(d:bG)(L:Int)(B:ByteArray)(C:Bool)(S:Int)(n:Nat)(hr:gZ lo w (.slice ao rs.length rc) rs)(hsm:qM rs)(hs:eN lo w cv bv fv tv ev nv kv d)(sV:fG w)(hB:qe rs d ⟨L,B,C,S,n⟩=true)
  (hF:wP w (.slice ao rs.length rc) cv bv fv tv ev nv kv d.width rs bf g cap gq vs W) (hg:W.heap[gs]?=zd (zc (oc L B C S n) 32 (0,0))) (oW:w.heap.size<=gs):
  zl prog 38 #[zk (zd ⟨bf,0,zb⟩),zk (zd ⟨gs,0,zb⟩)] W λe W'=>QW W gs gq rs d ⟨L,B,C,S,n⟩ e W':=by
 obtain⟨Km,hf,TU,SF,mO,Gr,RN,-,Kr,Cf,Cg⟩:=ER hB;dsimp only at mO Gr RN Kr Cf Cg;have fU:prog.follows .mixedOrders=true:=by kernel_rfl
 obtain⟨st,jY⟩:∃st:Nat->Nat,zg (∀b,((st b:Nat):Int)=qK d ⟨L,B,C,S,n⟩ b):=⟨λb=>(qK d ⟨L,B,C,S,n⟩ b).toNat,λb=>by have:=Ml hB b;dsimp only;omega⟩;obtain⟨nm,nI⟩:∃nm:Nat->Int,zg (∀b,nm b=qG d ⟨L,B,C,S,n⟩ b):=⟨_,λ_=>rfl⟩;have FZ:zg (∀b,st b<d.base.length):=λb=>by have:=Ml hB b;have:=jY.out b;omega
 have Jj:zg (((st n:Nat):Int)=S):=by
  show _=_;rw[jY.out];unfold qK;dsimp only;rw[show n-(n:Int).toNat=0 from by omega];rfl
 have QN:zg (∀b,n<=b->∀h:b<B.size,((st (b+1):Nat):Int)=iQ d (st b) (B[b]'h).toNat):=λb h1 h2=>by
  rw[jY.out,zmG (s:=⟨L,B,C,S,n⟩) (by dsimp only;omega) (B[b]'h2).toNat (by dsimp only;simp[h2];rfl),<-jY.out]
  rfl
 have Je:zg (∀b,-1<=nm b/\nm b<rs.length):=λb=>by rw[nI.out];exact WN hB b
 have Hns:zg (∀b,OH d C (st b) b B.size=nm b):=λb=>by
  rw[nI.out];unfold OH qG;dsimp only;rw[<-jY.out];rfl
 obtain⟨W0,ah⟩:∃W0,W.alloc (zc #[za .i64 0,za .i64 0,za .i64 0,za .i64 0,ze zb 0 0] 35)=W0:=⟨_,rfl⟩;have pH:zj W.heap.size W W0:=by rw[<-ah];exact au
 have xW:W0.heap[W.heap.size]?=zd (zc #[za .i64 0,za .i64 0,za .i64 0,za .i64 0,ze zb 0 0] 35 (0,0)):=by rw[<-ah];exact aL _ _
 have fC:=(ap.1 hg).1;have Er:=(ap.1 hF.qs).1;have lD:=(ap.1 xW).1;have SN:gs≠gq:=λe=>by
  have:=hF.qs;rw[<-e,hg]at this;exact absurd (bP this) (by decide)
 have HF0:=aY (hF.below pH);have MN:zg (W0.heap[gs]?=zd (zc (oc L B C (st n) n) 32 (0,0))):=by
  show _=_;rw[Jj.out];exact cB hg pH
 have HxW:=aY xW;have Hr:=aY hr;have Hs:=aY hs;have Hf:=aY hf;have HB:=aY hB;have QG:=aY Km;have FJ:=aY sV;have HbW:=aY pH;clear hr hs hf hB Km sV hF hg xW TU SF pH
 go_enter func38,ntmps38
 go_wp2;clear ah
 go_loopw [] (λwr=>∃b:Nat,n<=b/\b<=B.size/\zg (aE (· = gs) W0 wr)/\zg (wr.heap[gs]?=zd (zc (oc L B C (st b) b) 32 (0,0)))/\zg (∀j,n<=j->j<b->nm j=-1))
  (λwr=>B.size+1-PZ gs wr)
 case atStart=>exact⟨n,ai _,by omega,aE.refl _ _,MN,λj h1 h2=>by omega⟩
 case round=>
  obtain⟨b,pO,iY,HT,Hg,sF⟩:=hrel;obtain⟨V,hV⟩:∃V,V=wr:=⟨_,rfl⟩;subst hV;have HF:=aY (HF0.out.turn MN.out oW HT.out);have GF:=zqR bf gs (.slice ao rs.length rc) cv bv fv tv ev nv kv _ _ d L B C (st b) b V (Hs.out.below HF.out.bj) Hf.out (FZ.out b) HF.out.box Hg.out;rw[Hns.out]at GF
  go_wp2_with fail
  refine GF.mono ?_;rintro e W1 ⟨rfl,ak⟩;have qW:=aY (HF.out.below ak);have BD:=aY (cB Hg.out ak);have nH:=aY (HT.out.trans (.cH ak));have hsz:PZ gs V=b:=by rw[zmC Hg.out];omega
  have Hsz:=aY hsz;clear GF HF HT hsz;have zzO:=qW.out.bj.size;have x1:=(nH.out.same W.heap.size lD (by show ¬W.heap.size=gs;omega)).trans HxW.out;have ju:=(ap.1 x1).1;have Jl:zg (aE (λk=>k=gs\/k=gq) W W1):=(aE.cH HbW.out).trans (nH.out.mono λk _ h=>.inl h)
  by_cases l9:nm b=-1
  ·have hne:(nm b != -1)=false:=by simp[l9]
   obtain⟨c0,c1,c2,c3,c4⟩:=eW BD.out
   by_cases Co:b=B.size
   ·have hq:((b:Int)==(B.size:Int))=true:=by simp;omega
    have HN:zg (oN rs d ⟨L,B,C,S,n⟩ ⟨L,B,C,st b,b⟩ ⟨if C then 3 else 2,0,0,0,[]⟩):=.inr (.inr ⟨HB.out,λj h1 h2=>by
     rw[<-nI.out]
     by_cases e:j=b
     ·rw[e];exact l9
     ·exact sF.out j (by dsimp only at h1;omega) (by dsimp only at h2;omega),by rw[jY.out,Co],rfl⟩)
    have z4:=cm x1;have z5:∀o,W1.frozen? ⟨W.heap.size,o,zb⟩=false:=λo=>cF _ _ o _ _ x1
    have lq:zg (∀nq,QW W gs gq rs d ⟨L,B,C,S,n⟩ (.returned (jq ⟨if C then 3 else 2,0,0,0,[]⟩ (ze zb 0 0))) (zo (W1.drewN nq) W.heap.size (if C then 3 else 2) 0 0 0 (ze zb 0 0))):=λnq=>zmo (x:=⟨if C then 3 else 2,0,0,0,[]⟩) HN.out fC BD.out (Nat.lt_succ_self _) ⟨rfl,.inl ⟨rfl,rfl⟩⟩ (Jl.out.trans (.cH (below_drewN (Below.refl _ _) nq)))
    have jN:=zhO 2;have St:=zhO 3;clear HN l9 Co qW nH Jl x1;go_wp2
    go_quiet (fail)
    cases C
    ·have yj:=aY (lq.out nq);simp only[Bool.false_eq_true,if_false]at yj;unfold zo at yj;clear lq;go_wp2;exact bD (v:=aa #[za .i64 2,za .i64 0,za .i64 0,za .i64 0,ze zb 0 0]) (by simp[results,results38,go_sem,z4]) rfl yj.out
    ·have yj:=aY (lq.out nq);simp only[if_true]at yj;unfold zo at yj;clear lq;go_wp2;exact bD (v:=aa #[za .i64 3,za .i64 0,za .i64 0,za .i64 0,ze zb 0 0]) (by simp[results,results38,go_sem,z4]) rfl yj.out
   ·have hq:((b:Int)==(B.size:Int))=false:=by simp;omega
    have hlt:b<B.size:=by omega
    have Qj:zg (∀j,n<=j->j<b+1->nm j=-1):=λj h1 h2=>by
     by_cases e:j=b
     ·rw[e];exact l9
     ·exact sF.out j h1 (by omega)
    have ae:(0:Int)<=(b:Int):=by omega
    have af:(b:Int)<(B.size:Int):=by omega
    have vx:=aY (QN.out b pO hlt);have hc:(B[b]'hlt).toNat<256:=(B[b]'hlt).toNat_lt;clear l9 Co sF;go_wp2
    go_quiet (fail)
    go_upto_region 7 with fail
    obtain⟨V1,R9⟩:∃V1,W1.drewN nq=V1:=⟨_,rfl⟩;have jL:zj W1.heap.size W1 V1:=by rw[<-R9];exact below_drewN (Below.refl _ _) nq
    rw[R9];have MB:=aY (qW.out.below jL);have zJ:=aY (cB BD.out jL);have XR:=aY (nH.out.trans (.cH jL));have hx:∀s:dy V1,(s.W.heap[bf]?=zd (zc (DT (.slice ao rs.length rc) cv d.width bv fv tv ev nv kv (ze (zd ⟨g,0,zb⟩) rs.length cap) (ze (zd ⟨gq,0,zb⟩) rs.length rs.length)) 128 (0,0)))/\s.W.heap[gs]?=zd (zc (oc L B C (st b) b) 32 (0,0)):=λs=>⟨cB MB.out.box s.h,cB zJ.out s.h⟩
    have k1:=λs:dy V1=>(show s.W.cell? ⟨bf,1,zb⟩=zd cv from cm (hx s).1 1)
    have k2:=λs:dy V1=>(show s.W.cell? ⟨bf,2,zb⟩=zd (za .i64 d.width) from cm (hx s).1 2)
    have k3:=λs:dy V1=>(show s.W.cell? ⟨bf,3,zb⟩=zd bv from cm (hx s).1 3)
    have k4:=λs:dy V1=>(show s.W.cell? ⟨bf,4,zb⟩=zd fv from cm (hx s).1 4)
    have k5:=λs:dy V1=>(show s.W.cell? ⟨bf,5,zb⟩=zd tv from cm (hx s).1 5)
    have k6:=λs:dy V1=>(show s.W.cell? ⟨bf,6,zb⟩=zd ev from cm (hx s).1 6)
    have k7:=λs:dy V1=>(show s.W.cell? ⟨bf,7,zb⟩=zd nv from cm (hx s).1 7)
    have k8:=λs:dy V1=>(show s.W.cell? ⟨bf,8,zb⟩=zd kv from cm (hx s).1 8)
    have l1:=λs:dy V1=>(show s.W.cell? ⟨gs,1,zb⟩=zd (.string B) from cm (hx s).2 1)
    have l3:=λs:dy V1=>(show s.W.cell? ⟨gs,3,zb⟩=zd (za .i64 (st b)) from cm (hx s).2 3)
    have l4:=λs:dy V1=>(show s.W.cell? ⟨gs,4,zb⟩=zd (za .i64 b) from cm (hx s).2 4)
    clear c0 c1 c2 c3 c4 R9 hx qW BD nH Jl;refine OY [0,1,2,3,4,5,6,7,8,9,10,11,12,13,14,15,16,17] [18,19,20,21,22,23] 23 (λw'=>∃s:dy V1,w'=s.W) fU ⟨⟨V1.drew,(Below.refl _ _).drew⟩,rfl⟩ (by kernel_rfl) ?_;intro os ck;simp only[lO,lP,lR,lQ]at ck;subst ck
    change wpQuiet _ _ _ _ [_,_,_,_,_,_,_,_,_,_,_,_,_,_,_,_,_,_] _
    repeat (go_big_quiet_step (fail))
    refine wpQuiet_nil ?_;rintro w' ⟨⟨Wb,iW⟩,hw'⟩ r' bZ;replace hw':w'=Wb:=hw';subst w';simp only[lO,lP,lR,lQ,Option.map_some]at bZ;subst bZ;clear k1 k2 k3 k4 k5 k6 k7 k8 l1 l3 l4;refine uT rfl (λK5 iI=>LL (ops:=#[]) rfl (λ_ _ h=>h) ?_)
    change wpList _ _ _ [_] _ _
    go_wp2;rw[uU];refine iI _ _ (λ_=>⟨⟨Wb,iW⟩,rfl⟩) ?_;clear iI K5;refine uT rfl (λK5 iI=>LL (ops:=#[]) rfl (λ_ _ h=>h) ?_)
    change wpList _ _ _ [_] _ _
    go_wp2;rw[uU];refine iI _ _ (λ_=>⟨⟨Wb,iW⟩,rfl⟩) ?_;clear iI K5;have cX:=aj MB.out.bj MB.out.bj.size iW;have zwp:=zr6 cv bv fv tv ev nv kv d (st b) (B[b]'hlt).toNat Wb (Hs.out.below cX) Hf.out (FZ.out b) hc;refine uT rfl (λK5 iI=>?_);refine Fb 76 #[.tmp 38,.tmp 42,.tmp 52] #[39,3,3] (by rfl) #[aa #[cv,za .i64 d.width,bv,fv,tv,ev,nv,kv],za .i64 (st b),za .i64 ((B[b]'hlt).toNat:Int)] (by simp[Act.eval]) (λv w'=>v=za .i64 (st (b+1))/\zj Wb.heap.size Wb w') (zoL _ _) (zwp.mono (by
     rintro e w1 ⟨rfl,h2⟩;exact⟨_,rfl,by rw[vx.out],h2⟩)) ?_
    rintro v8 W8 ⟨rfl,dX⟩;have JZ:zj V1.heap.size V1 W8:=aj iW iW.size dX;refine iI _ _ (λ_=>⟨⟨W8,JZ⟩,rfl⟩) ?_;clear iI K5 zwp;refine uT rfl (λK5 iI=>LL (ops:=#[]) rfl (λ_ _ h=>h) ?_)
    change wpList _ _ _ [_] _ _
    go_wp2;rw[uU];refine iI _ _ (λ_=>⟨⟨W8,JZ⟩,rfl⟩) ?_;clear iI K5;refine uT rfl (λK5 iI=>LL (ops:=#[]) rfl (λ_ _ h=>h) ?_)
    change wpList _ _ _ [_] _ _
    go_wp2;rw[uU];refine iI _ _ (λ_=>⟨⟨W8,JZ⟩,rfl⟩) ?_;clear iI K5;have g8:=cB zJ.out JZ;have g9:=dF W8 gs 3 _ _ (za .i64 (st (b+1))) g8;have g10:=dF (W8.setCell ⟨gs,3,zb⟩ (za .i64 (st (b+1)))) gs 4 _ _ (za .i64 ((b:Int)+1)) g9;obtain⟨c0,c1,c2,c3,c4⟩:=eW g8;have f3:=cF _ _ 3 _ _ g8;have f4:=cF _ _ 4 _ _ g8;have zw5:zg (aE (· = gs) W0 ((W8.setCell ⟨gs,3,zb⟩ (za .i64 (st (b+1)))).setCell ⟨gs,4,zb⟩ (za .i64 ((b:Int)+1)))):=((XR.out.trans (.cH JZ)).put (.inl rfl)).put (.inl rfl);have Yl:zg (((W8.setCell ⟨gs,3,zb⟩ (za .i64 (st (b+1)))).setCell ⟨gs,4,zb⟩ (za .i64 ((b:Int)+1))).heap[gs]?=zd (zc (oc L B C (st (b+1)) ((b+1:Nat):Int)) 32 (0,0))):=g10;have ed:IntKind.i64.wrap ((b:Int)+1)=(b:Int)+1:=by rw[IntKind.wrap_i64];omega
    clear g8 g9 g10 XR zJ MB cX;refine zgc (by simp) (λ_ _ h=>h) ?_
    change wpList _ _ _ [_] _ _
    go_wp2;rw[wy];go_wp2
    go_roundw
    case rel=>exact⟨b+1,by omega,by omega,zw5,Yl,Qj⟩
    case measure=>
     rw[zmC Yl.out,Hsz.out];omega
  ·obtain⟨i,hi⟩:∃i:Nat,nm b=i:=⟨(nm b).toNat,by have:=(Je.out b).1;omega⟩;have lZ:i<rs.length:=by have:=(Je.out b).2;omega
   have hne:((i:Int) != -1)=true:=by simp
   have Hi:=aY hi;rw[hi];clear hi l9;have fT:=qW.out.bj;obtain⟨j7,zn,hv',Ol,yY⟩:=Hr.out;cases hv';obtain⟨rb,ro,rv,rd,NM,gE,lF,k0,k1,CG⟩:=yY.elem fT lZ;subst NM;obtain⟨jH,jI,rfl,yP,rI⟩:=CG;have uv:eh lo w (.slice jH rd.branches.length jI) rd.branches:=⟨jH,jI,rfl,yP,rI⟩;have TM:Small rd.branches:=by have:=hsm.2 i lZ;rw[gE.out]at this;exact this
   have eU:iM rd=true:=by
    have h1:=QG.out;simp only[li,dE]at h1;exact jl.1 h1.1.2 rd (by rw[<-gE.out];simp[List.getD,lZ])
   have Eo:=eU;unfold iM gD at Eo;simp only[dE,oD]at Eo;obtain⟨G,hG⟩:∃G:Nat,rd.dG=G:=⟨rd.dG.toNat,by omega⟩;have hlen:rd.branches.length<=100000:=by omega
   rw[hG]at k1;obtain⟨gp,sc,Af,h1,h2,h3⟩:=qW.out.OK.at_ i lZ;rw[gE.out]at h1 h3;have kp:W1.cell? ⟨g,i,zb⟩=zd (ze (zd ⟨gp,0,zb⟩) rd.branches.length sc):=(qW.out.own.cellAt i (by omega)).trans h1;obtain⟨Wa,Sb⟩:∃Wa,W1.alloc (zc #[za .i64 0,za .i64 0,za .i64 0,za .i64 0,ze zb 0 0] 35)=Wa:=⟨_,rfl⟩;have bB:zj W1.heap.size W1 Wa:=by rw[<-Sb];exact au
   have FA:=qW.out.below bB;have Ep:=znO Wa bf g cap gq rs.length i gp sc rb ro rc cv bv fv tv ev nv kv d.width G jH jI rd.branches _ lZ FA.box FA.qs (by simp[lZ]) hlen ((bB.cell (p:=⟨rb,ro+i*2,zb⟩) (block_lt_of_cell k0)).trans k0) ((bB.cell (p:=⟨rb,ro+i*2+1,zb⟩) (block_lt_of_cell k1)).trans k1) ((bB.cell (p:=⟨g,i,zb⟩) (block_lt_of_cell kp)).trans kp) (h3.keep bB.size (λk _ _ e _=>(bB.block k (ap.1 e).1).trans e) (λg' Ls e=>by cases e;exact⟨Af,h2⟩)) ⟨Af,cB h2 bB⟩;rw[<-Sb]at Ep;have hm:=zpl w W1 fT bf gs gq i qW.out.JF L B C (st b) b rd G hG eU jH jI uv (by omega) iY FJ.out SN (ap.1 qW.out.qs).1 hlen BD.out Ep;have zvE:=(ap.1 BD.out).1;clear Ep Sb bB FA Eo k0 k1 kp h1 h2 h3 uv rI yY qW
   go_wp2_with fail
   refine hm.mono ?_;rintro e W2 ⟨a,sp,v,hst,hsp,rfl,eJ,pW⟩;obtain⟨so,sm,tG,rfl⟩:∃so sm sc,v=.slice so sm sc:=by
    rcases eJ.2 with ⟨e,_⟩|⟨g,c,_,e,_⟩
    ·exact⟨_,_,_,e⟩
    ·exact⟨_,_,_,e⟩
   obtain⟨W3,ff⟩:∃W3,W2.alloc (zc #[za .i64 1,za .i64 i,za .i64 a,za .i64 b,.slice so sm tG] 35)=W3:=⟨_,rfl⟩;have ay:zj W2.heap.size W2 W3:=by rw[<-ff];exact au
   have x3:W3.heap[W2.heap.size]?=zd (zc #[za .i64 1,za .i64 i,za .i64 a,za .i64 b,.slice so sm tG] 35 (0,0)):=by rw[<-ff];exact aL _ _
   have g2:=(pW.same gs zvE SN).trans BD.out;have cZ:=pW.size;have qA:W.heap.size≠gq:=by omega
   have r2:=(pW.same W.heap.size ju qA).trans x1;have zvz:=zm2 gs L B C (st b) b b iY W3 (cB g2 ay);obtain⟨c0,c1,c2,c3,c4⟩:=eW (cB g2 ay);have I4:=aY ff;have zz1:=(ap.1 g2).1;have HN:zg (oN rs d ⟨L,B,C,S,n⟩ ⟨L,B.extract b B.size,C,0,0⟩ ⟨1,i,a,b,sp⟩):=.inr (.inl ⟨HB.out,b,by dsimp only;omega,iY,λj h1 h2=>by
     rw[<-nI.out];exact sF.out j (by dsimp only at h1;omega) h2,by rw[<-nI.out,Hi.out];omega,a,sp,by rw[<-nI.out,Hi.out,sx,gE.out];exact hst,by rw[<-nI.out,Hi.out,sx,gE.out];exact hsp,rfl,by rw[<-nI.out,Hi.out]⟩)
   clear ff hm hst hsp x1
   go_upto_region 4 with fail
   rw[I4.out];clear I4
   go_wp2_with fail
   refine zvz.mono ?_;rintro e W4 ⟨rfl,zp,g4⟩;have mh:=ay.size;have pP:=zp.size;have zyT:=(ap.1 x3).1;have x4:=(zp.same _ zyT (by show ¬W2.heap.size=gs;omega)).trans x3;have r4:=(zp.same W.heap.size (by omega) (by show ¬W.heap.size=gs;omega)).trans (cB r2 ay);have jS:W4.ownsRow W1.heap.size 71 2 (.slice so sm tG) sp.length (pv sp):=kH (cI eJ ay) λk e=>zp.same k (by have:=(iD eJ e);obtain⟨_,aA,z⟩:=this;have:=(ap.1 z).1;omega) (by have:=(iD eJ e).1;show ¬k=gs;omega)
   have tF:aE (λk=>k=gs\/k=gq) W W4:=((Jl.out.trans (pW.mono λk _ h=>.inr h)).trans (.cH ay)).trans (zp.mono λk _ h=>.inl h);have yj:=aY (zmo (x:=⟨1,i,a,b,sp⟩) HN.out fC g4 (lo:=W1.heap.size) ju jS tF);unfold zo at yj;have z4:=cm r4;have z5:∀o,W4.frozen? ⟨W.heap.size,o,zb⟩=false:=λo=>cF _ _ o _ _ r4
   obtain⟨y0,y1,y2,y3,y4⟩:=eW x4;clear zvz HN eJ jS pW zp tF g4 g2 x3 x4 r2 r4 c0 c1 c2 c3 c4 Jl BD nH;go_wp2;exact bD (v:=aa #[za .i64 1,za .i64 i,za .i64 a,za .i64 b,.slice so sm tG]) (by simp[results,results38,go_sem,z4]) rfl yj.out
end
open Go.RowKit
attribute [local go_sem ↓] wp_at_zero wp_at_succ
structure Fo(w:zf)(t0 t1 t2 t3:zm)(C0 C1 C2 C3:Array ab)(W:zf):Prop where
 below:zj w.heap.size w W
 r0:W.heap[w.heap.size]?=zd (zc C0 t0 (0,0))
 r1:W.heap[w.heap.size+1]?=zd (zc C1 t1 (0,0))
 r2:W.heap[w.heap.size+2]?=zd (zc C2 t2 (0,0))
 r3:W.heap[w.heap.size+3]?=zd (zc C3 t3 (0,0))
section
variable {w W W':zf} {t0 t1 t2 t3:zm} {C0 C1 C2 C3:Array ab}
theorem Fo.call(h:Fo w t0 t1 t2 t3 C0 C1 C2 C3 W)(hb:zj W.heap.size W W'):Fo w t0 t1 t2 t3 C0 C1 C2 C3 W':=
 ⟨aj h.below h.below.size hb,cB h.r0 hb,cB h.r1 hb,cB h.r2 hb,cB h.r3 hb⟩
theorem Fo.size(h:Fo w t0 t1 t2 t3 C0 C1 C2 C3 W):w.heap.size+3<W.heap.size:=ID h.r3
theorem Fo.new(w:zf)(t0 t1 t2 t3:zm)(C0 C1 C2 C3:Array ab):Fo w t0 t1 t2 t3 C0 C1 C2 C3 ((((w.alloc (zc C0 t0)).alloc (zc C1 t1)).alloc (zc C2 t2)).alloc (zc C3 t3)):=by
 have s1:(w.alloc (zc C0 t0)).heap.size=w.heap.size+1:=by simp
 have s2:((w.alloc (zc C0 t0)).alloc (zc C1 t1)).heap.size=w.heap.size+2:=by simp
 have s3:(((w.alloc (zc C0 t0)).alloc (zc C1 t1)).alloc (zc C2 t2)).heap.size=w.heap.size+3:=by simp
 refine⟨((au).alloc (by simp) _).alloc (by simp;omega) _ |>.alloc (by simp;omega) _,?_,?_,?_,?_⟩
 ·exact cQ (cQ (cQ (aL _ _)))
 ·have:=aL (w.alloc (zc C0 t0)) (zc C1 t1);rw[s1]at this;exact cQ (cQ this)
 ·have:=aL ((w.alloc (zc C0 t0)).alloc (zc C1 t1)) (zc C2 t2);rw[s2]at this;exact cQ this
 ·have:=aL (((w.alloc (zc C0 t0)).alloc (zc C1 t1)).alloc (zc C2 t2)) (zc C3 t3);rw[s3]at this;exact this
theorem Fo.cells(h:Fo w t0 t1 t2 t3 C0 C1 C2 C3 W):(∀o,W.cell? ⟨w.heap.size,o,zb⟩=C0[o]?)/\(∀o,W.cell? ⟨w.heap.size+1,o,zb⟩=C1[o]?)/\(∀o,W.cell? ⟨w.heap.size+2,o,zb⟩=C2[o]?)/\(∀o,W.cell? ⟨w.heap.size+3,o,zb⟩=C3[o]?)/\(∀o,W.frozen? ⟨w.heap.size+1,o,zb⟩=false)/\(∀o,W.frozen? ⟨w.heap.size+2,o,zb⟩=false)/\(∀o,W.frozen? ⟨w.heap.size+3,o,zb⟩=false):=
 ⟨cm h.r0,cm h.r1,cm h.r2,cm h.r3,λo=>cF _ _ o _ _ h.r1,λo=>cF _ _ o _ _ h.r2,λo=>cF _ _ o _ _ h.r3⟩
end
theorem zko{lo:Nat}(ao:Option Addr)(rc:Nat)(cv bv fv tv ev nv kv:ab)(rs:List bL)(d:bG)(s:eE)(w:zf)(hr:gZ lo w (.slice ao rs.length rc) rs)(hsm:qM rs)(hs:eN lo w cv bv fv tv ev nv kv d)(hB:qe rs d s=false):
  zl prog 7 #[aa #[.slice ao rs.length rc,cv,za .i64 d.width,bv,fv,tv,ev,nv,kv],aa #[za .i64 s.L,.string s.B,.bool s.C,za .i64 s.S,za .i64 s.N]] w λe w'=>Jo w .zero .zero e w':=by
 have F0:=Fo.new w 41 32 32 35 #[.slice ao rs.length rc,cv,za .i64 d.width,bv,fv,tv,ev,nv,kv] #[za .i64 s.L,.string s.B,.bool s.C,za .i64 s.S,za .i64 s.N] #[za .i64 0,.string ⟨#[]⟩,.bool false,za .i64 0,za .i64 0] #[za .i64 0,za .i64 0,za .i64 0,za .i64 0,ze zb 0 0];obtain⟨W0,ah⟩:∃W0,(((w.alloc (zc #[.slice ao rs.length rc,cv,za .i64 d.width,bv,fv,tv,ev,nv,kv] 41)).alloc (zc #[za .i64 s.L,.string s.B,.bool s.C,za .i64 s.S,za .i64 s.N] 32)).alloc (zc #[za .i64 0,.string ⟨#[]⟩,.bool false,za .i64 0,za .i64 0] 32)).alloc (zc #[za .i64 0,za .i64 0,za .i64 0,za .i64 0,ze zb 0 0] 35)=W0:=⟨_,rfl⟩;rw[ah]at F0;obtain⟨ba,bc,J2⟩:∃ba bc,bv=.slice ba d.base.length bc:=by obtain⟨ba,bc,h,_⟩:=hs.base;exact⟨ba,bc,h⟩
 subst J2;have c1:=zeu ao rc cv _ fv tv ev nv kv rs d W0 (hr.below F0.below) hsm (hs.below F0.below);have Hn:zg (qe rs d s=(rT rs d&&nC s&&decide (s.S<d.base.length))):=rfl;obtain⟨c0,Ac,yE,c3,f1,f2,f3⟩:=F0.cells;clear hr hsm
 go_enter func7,ntmps7
 go_wp2_with fail
 refine c1.mono ?_;rintro e W1 ⟨rfl,ak⟩;have F1:=F0.call ak;clear c0 Ac yE c3 f1 f2 f3 ah c1 F0 ak;cases hm:rT rs d
 ·obtain⟨c0,c1,c2,c3,f1,f2,f3⟩:=F1.cells;go_wp2;exact bD (v:=.tuple #[aa #[za .i64 0,.string ⟨#[]⟩,.bool false,za .i64 0,za .i64 0],aa #[za .i64 0,za .i64 0,za .i64 0,za .i64 0,ze zb 0 0]]) (by simp[results,results7,go_sem,c2,c3]) rfl ⟨_,rfl,⟨rfl,.inl ⟨rfl,rfl⟩⟩,by
   iterate 10 refine Below.setCell ?_ (by simp<;>omega) _
   exact F1.below⟩
 have c2:=zev s W1;obtain⟨c0,c1,yE,c3,f1,f2,f3⟩:=F1.cells
 go_wp2_with fail
 refine c2.mono ?_;rintro e W2 ⟨rfl,af⟩;have F2:=F1.call af;clear c0 c1 yE c3 f1 f2 f3 c2 F1 af;obtain⟨c0,c1,c2,c3,f1,f2,f3⟩:=F2.cells;cases hq:nC s
 ·go_wp2;exact bD (v:=.tuple #[aa #[za .i64 0,.string ⟨#[]⟩,.bool false,za .i64 0,za .i64 0],aa #[za .i64 0,za .i64 0,za .i64 0,za .i64 0,ze zb 0 0]]) (by simp[results,results7,go_sem,c2,c3]) rfl ⟨_,rfl,⟨rfl,.inl ⟨rfl,rfl⟩⟩,by
   iterate 10 refine Below.setCell ?_ (by simp<;>omega) _
   exact F2.below⟩
 have hS:decide ((d.base.length:Int)<=s.S)=true:=decide_eq_true (by
  have:=Hn.out;rw[hB,hm,hq]at this;have:=of_decide_eq_false this.symm;omega)
 have vH:decide (s.S>=(d.base.length:Int))=true:=hS;clear hm hq Hn hB;go_wp2;exact bD (v:=.tuple #[aa #[za .i64 0,.string ⟨#[]⟩,.bool false,za .i64 0,za .i64 0],aa #[za .i64 0,za .i64 0,za .i64 0,za .i64 0,ze zb 0 0]]) (by simp[results,results7,go_sem,c2,c3]) rfl ⟨_,rfl,⟨rfl,.inl ⟨rfl,rfl⟩⟩,by
  iterate 10 refine Below.setCell ?_ (by simp<;>omega) _
  exact F2.below⟩
end Go.Proofs.YtdimhpfiieepiaaGreatDoor
