import Derived.Test.YtdimhpfiieepiaaGreatDoorC32
namespace Go.Proofs.YtdimhpfiieepiaaGreatDoor
open Proofs.Tryz
open Option renaming some->za,none->zb
open Value renaming pointer->zc,slice->ze,agg->zi
open Go renaming World->zd,Value->zf,Calls->zh,TypeId->zj
open Obj renaming cells->zg
set_option maxHeartbeats 1000000
set_option maxRecDepth 100000
section
def si(nw:Nat)(T:Nat->Nat)(P:Nat->Prop):Prop:=∀q,q<64*nw->(ax T q=true↔P q)
structure py(M:PA)(n nw:Nat)(f:Nat->Nat->Bool)(F G:Nat->Nat->Nat)(X Y:Nat->Nat):Prop where
 kC:n<=64*nw
 D:∀p,M.D p↔p<n
 fi:∀p,M.first p->M.D p
 la:∀p,M.last p->M.D p
 fo:∀p q,M.D p->M.fol p q->M.D q
 tk:∀p (c:UInt8),p<n->(M.tk p c↔f p c.toNat=true)
 fw:∀p q,p<n->q<64*nw->(ax (F p) q=true↔M.fol p q)
 bw:∀p q,p<n->q<n->(ax (G p) q=true↔M.fol q p)
 xs:∀q,q<64*nw->(ax X q=true↔M.first q)
 ys:∀q,q<64*nw->(ax Y q=true↔M.last q)
section
variable {M:PA} {n nw:Nat} {f:Nat->Nat->Bool} {F G:Nat->Nat->Nat} {X Y:Nat->Nat} {u:aJ} {E:Nat->Prop}
theorem gO.lt(h:py M n nw f F G X Y){i p:Nat}(hb:gO u M E i p):p<n:=by
 obtain⟨_,_,_,h1⟩:=hb.byte;exact(h.D p).1 h1
theorem zof(h:py M n nw f F G X Y){i:Nat}{c:UInt8}(hc:u[i]?=za c){T U:Nat->Nat}{b:Bool}(hb:b=true↔E (i+1))(R8:∀q,q<64*nw->ax T q=true->q<n)(xd:∀q,q<64*nw->ax U q=true->q<n)(hT:si nw T (gO u M E (i+1)))(hs:xU nw f G Y T c.toNat b U):si nw U (gO u M E i):=λq hq=>by
 have hn:=h.kC;rw[hs q hq,zog hc];constructor
 ·rintro ⟨h1,h2⟩;have tp:q<n:=xd q hq ((hs q hq).2 ⟨h1,h2⟩);refine⟨(h.tk q c tp).2 h1,(h.D q).2 tp,?_⟩;rcases h2 with ⟨p,h3,h4,h5⟩|⟨h3,h4⟩
  ·have jw:=R8 p h3 h4;exact .inr ⟨p,(h.bw p q jw tp).1 h5,(hT p h3).1 h4⟩
  ·exact .inl ⟨(h.ys q hq).1 h4,hb.1 h3⟩
 ·rintro ⟨h1,h2,h3⟩;have tp:=(h.D q).1 h2;refine⟨(h.tk q c tp).1 h1,?_⟩;rcases h3 with ⟨h3,h4⟩|⟨p,h3,h4⟩
  ·exact .inr ⟨hb.2 h4,(h.ys q hq).2 h3⟩
  ·have jw:=gO.lt h h4;exact .inl ⟨p,by omega,(hT p (by omega)).2 h4,(h.bw p q jw tp).2 h3⟩
theorem zqT(h:py M n nw f F G X Y){i j:Nat}(dA:i<=j){c:UInt8}(hc:u[j]?=za c){T U:Nat->Nat}{b:Bool}(hb:b=true↔j=i)(R8:∀q,q<64*nw->ax T q=true->q<n)(xd:∀q,q<64*nw->ax U q=true->q<n)(hT:si nw T (jm u M i j))(hs:xU nw f F X T c.toNat b U):si nw U (jm u M i (j+1)):=λq hq=>by
 have hn:=h.kC;rw[hs q hq]
 by_cases e:i<j
 ·rw[LW e hc];constructor
  ·rintro ⟨h1,h2⟩;have tp:q<n:=xd q hq ((hs q hq).2 ⟨h1,h2⟩);rcases h2 with ⟨p,h3,h4,h5⟩|⟨h3,_⟩
   ·exact⟨p,(hT p h3).1 h4,(h.fw p q (R8 p h3 h4) hq).1 h5,(h.tk q c tp).2 h1⟩
   ·have:=hb.1 h3;omega
  ·rintro ⟨p,h1,h2,h3⟩;have hpD:=h1.2.2.inside h.fi h.fo;have jw:=(h.D p).1 hpD;have tp:=(h.D q).1 (h.fo p q hpD h2);exact⟨(h.tk q c tp).1 h3,.inl ⟨p,by omega,(hT p (by omega)).2 h1,(h.fw p q jw hq).2 h2⟩⟩
 ·obtain rfl:i=j:=by omega
  rw[PB hc];constructor
  ·rintro ⟨h1,h2⟩;have tp:q<n:=xd q hq ((hs q hq).2 ⟨h1,h2⟩);rcases h2 with ⟨p,h3,h4,_⟩|⟨_,h3⟩
   ·have:=((hT p h3).1 h4).1;omega
   ·exact⟨(h.xs q hq).1 h3,(h.tk q c tp).2 h1⟩
  ·rintro ⟨h1,h2⟩;have tp:=(h.D q).1 (h.fi q h1);exact⟨(h.tk q c tp).1 h2,.inr ⟨hb.2 rfl,(h.xs q hq).2 h1⟩⟩
theorem zjn{hi:Nat}(hE:∀m,E m->m<=hi){i p:Nat}(h:gO u M E i p):i<hi:=by
 induction h with
 |stop i p c h1 h2 h3 h4 h5=>have:=hE _ h5;omega
 |on i p q c h1 h2 h3 h4 h5 ih=>omega
theorem zqE{k:Nat}(hE:∀m,m<=k->¬E m)(hk:∀p,¬gO u M E k p){i p:Nat}(h:gO u M E i p):k<i:=by
 induction h with
 |stop i p c h1 h2 h3 h4 h5=>
  rcases gh k i with a|a
  ·exact a
  ·rcases gh k (i+1) with b|b
   ·obtain rfl:i=k:=by omega
    exact absurd (.stop i p c h1 h2 h3 h4 h5) (hk p)
   ·exact absurd h5 (hE _ b)
 |on i p q c h1 h2 h3 h4 h5 ih=>
  rcases gh k i with a|a
  ·exact a
  ·obtain rfl:i=k:=by omega
   exact absurd (.on i p q c h1 h2 h3 h4 h5) (hk p)
theorem zrW(h:py M n nw f F G X Y){T:Nat->Nat}(hl:∀x,T x<18446744073709551616){i:Nat}(hT:si nw T (gO u M E i)):zR u M E i↔(E i/\M.e)\/kI nw T X=true:=by
 have hn:=h.kC;rw[VS nw T X hl];refine or_congr Iff.rfl ⟨λ⟨p,h1,h2⟩=>?_,λ⟨p,h1,h2,h3⟩=>⟨p,(h.xs p h1).1 h3,(hT p h1).1 h2⟩⟩;have:=gO.lt h h2;exact⟨p,by omega,(hT p (by omega)).2 h2,(h.xs p (by omega)).2 h1⟩
theorem zqN(h:py M n nw f F G X Y){T:Nat->Nat}(hl:∀x,T x<18446744073709551616){i j:Nat}(hT:si nw T (jm u M i j)):(∃p,jm u M i j p/\M.last p)↔kI nw T Y=true:=by
 have hn:=h.kC;rw[VS nw T Y hl];refine⟨λ⟨p,h1,h2⟩=>?_,λ⟨p,h1,h2,h3⟩=>⟨p,(hT p h1).1 h2,(h.ys p h1).1 h3⟩⟩;have:=(h.D p).1 (h.la p h2);exact⟨p,by omega,(hT p (by omega)).2 h1,(h.ys p (by omega)).2 h2⟩
end
end
section
variable {s n nw bt ga gl:Nat}{w w':zd}{lv:zf}{Lk:Nat -> Nat -> Nat}{A L:Nat -> Nat}{f:Nat -> Nat -> Bool}{O:Nat -> Prop}
open Go.RowKit
attribute [local go_sem ↓] wp_at_zero wp_at_succ
structure ey where
 b0:Nat
 B:Nat
 n:Nat
 nw:Nat
 bt:Nat
 ga:Nat
 gl:Nat
 sv:zf
 fa:Option Addr
 fc:Nat
 ba:Option Addr
 bc:Nat
 fr:Nat->Nat
 br:Nat->Nat
 mr:Nat->Nat
 f:Nat->Nat->Bool
 F:Nat->Nat->Nat
 G:Nat->Nat->Nat
 A:Nat->Nat
 L:Nat->Nat
 e:Bool
structure cd where
 r:Nat
 gm:Nat
 gv:Nat
 sS:zf
 sP:zf
 gx:Nat->Nat
 Ts:Nat->Nat->Nat
 m:Nat
 es:List (Int×Int)
structure DC(w:zd)(s:Nat)(v:ey):Prop where
 c1:pE v.B w v.n v.nw v.bt v.ga v.gl (.slice v.fa v.n v.fc) v.sv (.slice v.fa v.n v.fc) v.fr v.mr v.F v.A v.L v.f
 c2:pE v.B w v.n v.nw v.bt v.gl v.ga (.slice v.ba v.n v.bc) v.sv (.slice v.fa v.n v.fc) v.br v.mr v.G v.L v.A v.f
 p0:0<v.b0
 s0:v.b0<=s
 s1:s<v.B
 tb:v.b0<=v.bt
 ab:v.b0<=v.ga
 lb:v.b0<=v.gl
 sb:∀k,v.sv.ownBlock=za k->v.b0<=k/\k≠s
 fb:∀k,(Value.slice v.fa v.n v.fc).ownBlock=za k->v.b0<=k/\k≠s
 bb:∀k,(Value.slice v.ba v.n v.bc).ownBlock=za k->v.b0<=k/\k≠s
 Gl:∀p,p<v.n->v.b0<=v.fr p
 Gh:∀p,p<v.n->v.b0<=v.br p
 ne:v.bt≠s/\v.ga≠s/\v.gl≠s/\∀p,p<v.n->v.fr p≠s/\v.br p≠s
theorem pE.zwH{B b0:Nat}{sv fv:zf}{lr mk:Nat->Nat}(h:pE B w n nw bt ga gl lv sv fv lr mk Lk A L f)
  (h1:b0<=bt/\bt≠s) (h2:b0<=ga/\ga≠s) (h3:b0<=gl/\gl≠s) (h4:∀k,sv.ownBlock=za k->b0<=k/\k≠s) (h5:∀k,lv.ownBlock=za k->b0<=k/\k≠s) (h6:∀p,p<n->b0<=lr p/\lr p≠s)
  (hk:∀k,b0<=k->k<B->k≠s->w'.heap[k]?=w.heap[k]?) (hm:bR w w') (hz:w'.heap[0]?=w.heap[0]?) (hs:B<=w'.heap.size):pE B w' n nw bt ga gl lv sv fv lr mk Lk A L f:=by
 have hc:∀k o,b0<=k->k<B->k≠s->w'.cell? ⟨k,o,zb⟩=w.cell? ⟨k,o,zb⟩:=λk o g1 g2 g3=>World.cell?_of_block (hk k g1 g2 g3)
 have hp:∀{g:Nat} {T:Nat->Nat},aH w nw g T->b0<=g->g<B->g≠s->aH w' nw g T:=λh g1 g2 g3=>⟨(hk _ g1 g2 g3).trans h.row,h.lt⟩
 refine⟨(hk bt h1.1 h.Ab h1.2).trans h.box,h.Ab,λhn=>?_,λp hn=>⟨hm _ _ (h.pS p hn).1,(h.pS p hn).2⟩,λhn=>?_,λp hn=>⟨hp (h.wa p hn).1 (h6 p hn).1 (h.wa p hn).2 (h6 p hn).2,(h.wa p hn).2⟩,⟨hp h.pa.1 h2.1 h.pa.2 h2.2,h.pa.2⟩,⟨hp h.pl.1 h3.1 h.pl.2 h3.2,h.pl.2⟩,h.dR.keep hz,h.pos,hs,h.kC,h.gY,h.lb,h.ab⟩
 ·obtain⟨gs,cs,e,hl,k⟩:=h.CU hn;have:=h4 gs (by rw[e];rfl);exact⟨gs,cs,e,hl,λp hp=>(hc _ _ this.1 hl this.2).trans (k p hp)⟩
 ·obtain⟨gs,cs,e,hl,k⟩:=h.Ld hn;have:=h5 gs (by rw[e];rfl);exact⟨gs,cs,e,hl,λp hp=>(hc _ _ this.1 hl this.2).trans (k p hp)⟩
theorem DC.keep{v:ey}(h:DC w s v)(hk:∀k,v.b0<=k->k<v.B->k≠s->w'.heap[k]?=w.heap[k]?)(hm:bR w w')(hz:w'.heap[0]?=w.heap[0]?)(hs:w.heap.size<=w'.heap.size):DC w' s v:=
 ⟨h.c1.zwH (s:=s) ⟨h.tb,h.ne.1⟩ ⟨h.ab,h.ne.2.1⟩ ⟨h.lb,h.ne.2.2.1⟩ h.sb h.fb (λp hp=>⟨h.Gl p hp,(h.ne.2.2.2 p hp).1⟩) hk hm hz (aU h.c1.le hs),h.c2.zwH (s:=s) ⟨h.tb,h.ne.1⟩ ⟨h.lb,h.ne.2.2.1⟩ ⟨h.ab,h.ne.2.1⟩ h.sb h.bb (λp hp=>⟨h.Gh p hp,(h.ne.2.2.2 p hp).2⟩) hk hm hz (aU h.c2.le hs),h.p0,h.s0,h.s1,h.tb,h.ab,h.lb,h.sb,h.fb,h.bb,h.Gl,h.Gh,h.ne⟩
structure qj(O:Nat->Prop)(w:zd)(n nw bt ga gl:Nat)(lv:zf)(f:Nat->Nat->Bool)(Lk:Nat->Nat->Nat)(A L:Nat->Nat)(v:cd):Prop where
 s:eZ O w v.r nw bt ga gl lv L v.gm v.gv v.sS v.sP v.gx v.Ts v.m v.es
 mv:uc nw f Lk A v.Ts v.m v.es
 EJ:Fw n nw v.Ts v.m
 zero:∀x,x<nw->v.Ts 0 x=0
 pos:0<v.m
theorem qj.keep{v:cd}(h:qj O w n nw bt ga gl lv f Lk A L v)(hk:∀k,O k->k<w.heap.size->w'.heap[k]?=w.heap[k]?):qj O w' n nw bt ga gl lv f Lk A L v:=
 ⟨h.s.keep hk,h.mv,h.EJ,h.zero,h.pos⟩
def Bi(v:ey)(x y:zf):Array zf:=#[zc (za ⟨v.bt,0,zb⟩),.bool v.e,ze (za ⟨v.ga,0,zb⟩) v.nw v.nw,ze (za ⟨v.gl,0,zb⟩) v.nw v.nw,.slice v.ba v.n v.bc,x,y]
structure gR(O1 O2:Nat->Prop)(w:zd)(s:Nat)(v:ey)(a b:cd):Prop where
 box:w.heap[s]?=za (zg (Bi v (zc (za ⟨a.r,0,zb⟩)) (zc (za ⟨b.r,0,zb⟩))) 229 (0,0))
 c:DC w s v
 ra:qj O1 w v.n v.nw v.bt v.ga v.gl (.slice v.fa v.n v.fc) v.f v.F v.A v.L a
 rb:qj O2 w v.n v.nw v.bt v.gl v.ga (.slice v.ba v.n v.bc) v.f v.G v.L v.A b
 o1:∀k,O1 k->v.B<=k/\k<w.heap.size
 o2:∀k,O2 k->v.B<=k/\k<w.heap.size
 EB:∀k,O1 k->¬O2 k
theorem gR.keep{O1 O2:Nat->Prop}{v:ey}{a b:cd}(h:gR O1 O2 w s v a b)(hk:∀k,(v.b0<=k/\k<v.B)\/O1 k\/O2 k->w'.heap[k]?=w.heap[k]?)(hm:bR w w')(hz:w'.heap[0]?=w.heap[0]?)(hs:w.heap.size<=w'.heap.size):gR O1 O2 w' s v a b:=
 ⟨(hk s (.inl ⟨h.c.s0,h.c.s1⟩)).trans h.box,h.c.keep (λk h1 h2 _=>hk k (.inl ⟨h1,h2⟩)) hm hz hs,h.ra.keep λk h1 _=>hk k (.inr (.inl h1)),h.rb.keep λk h1 _=>hk k (.inr (.inr h1)),λk h1=>⟨(h.o1 k h1).1,bA (h.o1 k h1).2 hs⟩,λk h1=>⟨(h.o2 k h1).1,bA (h.o2 k h1).2 hs⟩,h.EB⟩
theorem mD{g:Nat}{a0 a1 a2 a3 a4 a5 a6:zf}{t:zj}(h:w.heap[g]?=za (zg #[a0,a1,a2,a3,a4,a5,a6] t (0,0))):w.cell? ⟨g,0,zb⟩=za a0/\w.cell? ⟨g,1,zb⟩=za a1/\w.cell? ⟨g,2,zb⟩=za a2/\w.cell? ⟨g,3,zb⟩=za a3/\w.cell? ⟨g,4,zb⟩=za a4/\w.cell? ⟨g,5,zb⟩=za a5/\w.cell? ⟨g,6,zb⟩=za a6:=by
 have:∀o,w.cell? ⟨g,o,zb⟩=#[a0,a1,a2,a3,a4,a5,a6][o]?:=λ_=>aO _ _ _ _ _ _ h
 exact⟨this 0,this 1,this 2,this 3,this 4,this 5,this 6⟩
theorem qj.first{r gm gv:Nat}{sS sP:zf}{gx:Nat->Nat}{Ts:Nat->Nat->Nat}(h:eZ O w r nw bt ga gl lv L gm gv sS sP gx Ts 1 [])(hz:∀x,x<nw->Ts 0 x=0):qj O w n nw bt ga gl lv f Lk A L ⟨r,gm,gv,sS,sP,gx,Ts,1,[]⟩:=by
 refine⟨h,λk hk=>by simp[ep]at hk,λi q hi hq hb=>?_,hz,by simp⟩;have e:i=0:=by simp at hi;omega
 subst e;have:=hz (q/64) (by omega);unfold ax at hb;simp[this]at hb
end
section
open Go.RowKit
attribute [local go_sem ↓] wp_at_zero wp_at_succ
def Xt(w:zd)(s:Nat)(v:ey)(w':zd):Prop:=
 ∃(a b:cd) (O1 O2:Nat->Prop),gR O1 O2 w' s v a b/\a.m=1/\b.m=1/\(∀k,O1 k\/O2 k->w.heap.size<=k)/\aE (· = s) w w'
theorem zjJ(s:Nat)(v:ey)(x y:zf)(w:zd)(gU:w.heap[s]?=za (zg (Bi v x y) 229 (0,0)))(hC:DC w s v):
  zh prog 141 #[zc (za ⟨s,0,zb⟩)] w λe w'=>e=.returned (.tuple #[])/\Xt w s v w':=by
 obtain⟨c0,c1,c2,c3,c4,c5,c6⟩:=mD gU;have f5:=cF _ _ 5 _ _ gU;obtain⟨t0,t1,t2,-⟩:=bW hC.c1.box;have iL:s<w.heap.size:=(ap.1 gU).1;have oZ:=zf5 v.nw v.bt v.ga v.gl v.n v.fc v.fa v.sv (.slice v.fa v.n v.fc) v.L w.drew hC.c1.box ⟨hC.c1.pl.1.row,hC.c1.pl.1.lt⟩ hC.c1.gY;have ky:∀(w1:zd),Below w.drew.heap.size w.drew w1->∀(r1:Nat),zh prog 161 #[zc (za ⟨v.bt,0,zb⟩),.slice v.ba v.n v.bc,ze (za ⟨v.gl,0,zb⟩) v.nw v.nw,ze (za ⟨v.ga,0,zb⟩) v.nw v.nw] (w1.setCell ⟨s,5,zb⟩ (zc (za ⟨r1,0,zb⟩))).drew λe w2=>QU (w1.setCell ⟨s,5,zb⟩ (zc (za ⟨r1,0,zb⟩))).drew v.nw v.bt v.gl v.ga (.slice v.ba v.n v.bc) v.A e w2:=λw1 hb r1=>by
  have hk:∀k,k<w.heap.size->k≠s->(w1.setCell ⟨s,5,zb⟩ (zc (za ⟨r1,0,zb⟩))).heap[k]?=w.heap[k]?:=λk h1 h2=>by
   rw[cu _ _ _ _ (show k≠s from h2)];exact hb.block k h1
  have hle:=hC.c1.le;have h1:=hC.c1.Ab;have h2:=hC.c1.pa.2;exact zf5 v.nw v.bt v.gl v.ga v.n v.bc v.ba v.sv (.slice v.fa v.n v.fc) v.A _ ((hk v.bt (by omega) hC.ne.1).trans hC.c1.box) ⟨(hk v.ga (by omega) hC.ne.2.1).trans hC.c1.pa.1.row,hC.c1.pa.1.lt⟩ hC.c1.gY
 have lq:Hid (∀w1 r1 JD JG Lq Ln JI Gb,Below w.drew.heap.size w.drew w1->eZ (λk=>w.heap.size<=k/\k<w1.heap.size) w1 r1 v.nw v.bt v.ga v.gl (.slice v.fa v.n v.fc) v.L JD JG Lq Ln JI Gb 1 []->(∀x,x<v.nw->Gb 0 x=0)->
   ∀w2 r2 JE JH Lr Lp JJ Gc,Below w1.heap.size (w1.setCell ⟨s,5,zb⟩ (zc (za ⟨r1,0,zb⟩))).drew w2->eZ (λk=>w1.heap.size<=k/\k<w2.heap.size) w2 r2 v.nw v.bt v.gl v.ga (.slice v.ba v.n v.bc) v.A JE JH Lr Lp JJ Gc 1 []->(∀x,x<v.nw->Gc 0 x=0)->
   Xt w s v (w2.setCell ⟨s,6,zb⟩ (zc (za ⟨r2,0,zb⟩)))):=by
  intro w1 r1 JD JG Lq Ln JI Gb ak rD bh w2 r2 JE JH Lr Lp JJ Gc af nO bz;have s1:w.heap.size<=w1.heap.size:=ak.size;have s2:w1.heap.size<=w2.heap.size:=by simpa using af.size
  have o1:∀k,k≠s->k<w1.heap.size->w2.heap[k]?=w1.heap[k]?:=λk h1 h2=>(af.block k h2).trans (by show (w1.setCell _ _).heap[k]?=_;exact cu _ _ _ _ (show k≠s from h1))
  have o2:∀k,k≠s->(w2.setCell ⟨s,6,zb⟩ (zc (za ⟨r2,0,zb⟩))).heap[k]?=w2.heap[k]?:=λk h1=>cu _ _ _ _ (show k≠s from h1)
  have oo:∀k,k≠s->k<w.heap.size->(w2.setCell ⟨s,6,zb⟩ (zc (za ⟨r2,0,zb⟩))).heap[k]?=w.heap[k]?:=λk h1 h2=>(o2 k h1).trans ((o1 k h1 (by omega)).trans (ak.block k h2))
  have b1:w1.heap[s]?=za (zg (Bi v x y) 229 (0,0)):=(ak.block s iL).trans gU;have b2:=dF w1 s 5 _ _ (zc (za ⟨r1,0,zb⟩)) b1;have b3:w2.heap[s]?=_:=(af.block s (by omega)).trans b2;have b4:=dF w2 s 6 _ _ (zc (za ⟨r2,0,zb⟩)) b3;have bK:(0:Nat)≠s:=by have:=hC.p0;have:=hC.s0;omega
  have gX:=hC.c1.pos;have hle:=hC.c1.le;have hk:bR w (w2.setCell ⟨s,6,zb⟩ (zc (za ⟨r2,0,zb⟩))):=λk _ e=>by
   have hne:k≠s:=λe2=>by rw[e2,gU]at e;exact absurd (bP e) (by decide)
   exact(oo k hne (ap.1 e).1).trans e
  refine⟨⟨r1,JD,JG,Lq,Ln,JI,Gb,1,[]⟩,⟨r2,JE,JH,Lr,Lp,JJ,Gc,1,[]⟩,λk=>w.heap.size<=k/\k<w1.heap.size,λk=>w1.heap.size<=k/\k<w2.heap.size,⟨b4,hC.keep (λk h1 h2 h3=>oo k h3 (by omega)) hk (oo 0 bK (by omega)) (by simp;omega),qj.first (rD.keep λk h1 _=>(o2 k (by omega)).trans (o1 k (by omega) h1.2)) bh,qj.first (nO.keep λk h1 _=>o2 k (by omega)) bz,λk h1=>⟨by omega,by simp;omega⟩,λk h1=>⟨by omega,by simp;omega⟩,λk h1 h2=>by omega⟩,rfl,rfl,λk h1=>by omega,af.os.trans ak.os,af.tape.trans ak.tape,af.output.trans ak.output,by simp;omega,λk h1 h2=>oo k h2 h1⟩
 have zzC:Hid (DC w s v):=hC;have cX:=hC.c1.Ab;have hBl:=hC.c1.le;have iY:=hC.ne.1;have Mz:Hid (∀w1:zd,Below w.drew.heap.size w.drew w1->∀r1:Nat,w1.heap[s]?=za (zg (Bi v x y) 229 (0,0))/\w1.cell? ⟨v.bt,2,zb⟩=za (.slice v.fa v.n v.fc)/\(w1.setCell ⟨s,5,zb⟩ (zc (za ⟨r1,0,zb⟩))).heap[s]?=za (zg (Bi v (zc (za ⟨r1,0,zb⟩)) y) 229 (0,0))/\(w1.setCell ⟨s,5,zb⟩ (zc (za ⟨r1,0,zb⟩))).cell? ⟨v.bt,2,zb⟩=za (.slice v.fa v.n v.fc)):=λw1 hb r1=>by
  have e1:=(hb.block s iL).trans gU;have e2:=(hb.cell (p:=⟨v.bt,2,zb⟩) (by show v.bt<w.heap.size;omega)).trans t2;exact⟨e1,e2,dF w1 s 5 _ _ _ e1,(World.cell?_of_block (cu _ _ _ _ (show v.bt≠s from iY))).trans e2⟩
 have Qa:Hid (∀W w2:zd,W.heap[s]?=za (zg (Bi v x y) 229 (0,0))->True):=λ_ _ _=>trivial
 clear Qa hC gU
 go_enter func141,ntmps141
 go_wp2_with fail
 go_region_held3 (λw'=>w'.cell? ⟨s,0,zb⟩=za (zc (za ⟨v.bt,0,zb⟩))/\w'.cell? ⟨s,2,zb⟩=za (ze (za ⟨v.ga,0,zb⟩) v.nw v.nw)/\w'.cell? ⟨s,3,zb⟩=za (ze (za ⟨v.gl,0,zb⟩) v.nw v.nw)/\w'.cell? ⟨v.bt,2,zb⟩=za (.slice v.fa v.n v.fc)) ((first|exact⟨c0,c2,c3,t2⟩|exact⟨k0,k2,k3,kt⟩|exact⟨j0,j2,j3,jt⟩|go_keep)) ((go_at_call 161;refine oZ.mono ?_;rintro e w1 ⟨r1,JD,JG,Lq,Ln,JI,Gb,rfl,rD,bh,ak⟩;obtain⟨kb,kt,jb,jt⟩:=Mz.out w1 ak r1;obtain⟨k0,k1,k2,k3,k4,k5,k6⟩:=mD kb;have kf:=cF _ _ 5 _ _ kb;obtain⟨j0,j1,j2,j3,j4,j5,j6⟩:=mD jb))
 have Tl:=ky w1 ak r1;have FU:Hid _:=lq.out w1 r1 JD JG Lq Ln JI Gb ak rD bh;have dB:s<w1.heap.size:=(ap.1 kb).1;obtain⟨X,hX⟩:∃X,w1.setCell ⟨s,5,zb⟩ (zc (za ⟨r1,0,zb⟩))=X:=⟨_,rfl⟩;have hXs:X.heap.size=w1.heap.size:=by rw[<-hX];simp
 rw[hX]at Tl jb j0 j2 j3 j4 j5 j6 FU ⊢;have Dq:Hid (∀w2:zd,Below X.drew.heap.size X.drew w2->∀r2:Nat,w2.heap[s]?=za (zg (Bi v (zc (za ⟨r1,0,zb⟩)) y) 229 (0,0))/\(w2.setCell ⟨s,6,zb⟩ (zc (za ⟨r2,0,zb⟩))).heap[s]?=za (zg (Bi v (zc (za ⟨r1,0,zb⟩)) (zc (za ⟨r2,0,zb⟩))) 229 (0,0))):=λw2 hb r2=>by
  have e1:=(hb.block s (by show s<X.heap.size;omega)).trans jb;exact⟨e1,dF w2 s 6 _ _ _ e1⟩
 clear Mz oZ ky lq rD bh ak kb kt k0 k1 k2 k3 k4 k5 k6 kf c0 c1 c2 c3 c4 c5 c6 t0 t1 t2 f5 jb jt j1 j5 j6
 go_wp2_with fail
 go_region_held3 (λw'=>w'.cell? ⟨s,0,zb⟩=za (zc (za ⟨v.bt,0,zb⟩))/\w'.cell? ⟨s,2,zb⟩=za (ze (za ⟨v.ga,0,zb⟩) v.nw v.nw)/\w'.cell? ⟨s,3,zb⟩=za (ze (za ⟨v.gl,0,zb⟩) v.nw v.nw)/\w'.cell? ⟨s,4,zb⟩=za (.slice v.ba v.n v.bc)) ((first|exact⟨j0,j2,j3,j4⟩|exact⟨k0,k2,k3,k4⟩|exact⟨i0,i2,i3,i4⟩|go_keep)) ((go_at_call 161;refine Tl.mono ?_;rintro e w2 ⟨r2,JE,JH,Lr,Lp,JJ,Gc,rfl,nO,bz,af⟩;obtain⟨kb,ib⟩:=Dq.out w2 af r2;obtain⟨k0,k1,k2,k3,k4,k5,k6⟩:=mD kb;have kf:=cF _ _ 6 _ _ kb;obtain⟨i0,i1,i2,i3,i4,i5,i6⟩:=mD ib))
 have H2:Hid _:=FU.out w2 r2 JE JH Lr Lp JJ Gc (by rw[<-hXs];exact af) (by rw[<-hXs];exact nO) bz;clear Dq Tl FU nO bz af kb ib k0 k1 k2 k3 k4 k5 k6 kf i0 i1 i2 i3 i4 i5 i6 j0 j2 j3 j4;go_wp2
 go_end0
 exact⟨rfl,H2.out⟩
end
section
variable {O:Nat -> Prop}{w:zd}{n nw bt ga gl:Nat}{lv:zf}{f:Nat -> Nat -> Bool}{Lk:Nat -> Nat -> Nat}{A L:Nat -> Nat}{v:cd}
open Go.RowKit
attribute [local go_sem ↓] wp_at_zero wp_at_succ
theorem qj.kZ(h:qj O w n nw bt ga gl lv f Lk A L v):∃g c:Nat,v.sS=ze (za ⟨g,0,zb⟩) v.m c/\g<w.heap.size/\∀i,i<v.m->w.cell? ⟨g,i,zb⟩=za (ze (za ⟨v.gx i,0,zb⟩) nw nw):=by
 obtain⟨g,cap,aA,h1,h2,h3⟩:=xN h.s.so h.pos;exact⟨g,cap,h1,(ap.1 h2).1,λi hi=>by rw[aO _ _ _ _ _ _ h2,h3 i hi];simp[gJ,hi]⟩
theorem qj.zwO(h:qj O w n nw bt ga gl lv f Lk A L v):∃g c:Nat,v.sP=ze (za ⟨g,0,zb⟩) v.m c/\g<w.heap.size/\∀i,i<v.m->w.cell? ⟨g,i,zb⟩=za (.bool (kI nw (v.Ts i) L)):=by
 obtain⟨g,cap,aA,h1,h2,h3⟩:=xN h.s.po h.pos;exact⟨g,cap,h1,(ap.1 h2).1,λi hi=>by rw[aO _ _ _ _ _ _ h2,h3 i hi];simp[CR,hi]⟩
theorem zrb(O1 O2:Nat->Prop)(s:Nat)(v:ey)(a b:cd)(w:zd)(h:gR O1 O2 w s v a b)(ha:a.m<=100000000)(hb:b.m<=100000000):
  zh prog 140 #[zc (za ⟨s,0,zb⟩)] w λe w'=>e=.returned (.int .i64 ((a.m:Int)+b.m))/\Below w.heap.size w w':=by
 obtain⟨-,-,-,-,-,c5,c6⟩:=mD h.box;have a5:=(oe h.ra.s.box).2.2.2.2.2.1;have b5:=(oe h.rb.s.box).2.2.2.2.2.1;obtain⟨g1,k1,e1,-⟩:=h.ra.kZ;obtain⟨g2,k2,e2,-⟩:=h.rb.kZ;rw[e1]at a5;rw[e2]at b5;clear e1 e2 h
 go_enter func140,ntmps140
 go_wp2
 go_region
 all_goals
  go_wp2;go_ret;exact⟨rfl,(Below.refl _ _).drew⟩
theorem zs9(O1 O2:Nat->Prop)(s:Nat)(v:ey)(a b:cd)(w:zd)(h:gR O1 O2 w s v a b)(hn:v.n<=64000):
  zh prog 143 #[zc (za ⟨s,0,zb⟩)] w λe w'=>e=.returned (.int .i64 ((v.n:Int)*v.nw))/\Below w.heap.size w w':=by
 obtain⟨c0,-,-,-,c4,-,-⟩:=mD h.box;obtain⟨t0,-,-,-⟩:=bW h.c.c1.box;have bV:=h.c.c1.gY;have hm:(0:Int)<=(v.n:Int)*v.nw/\(v.n:Int)*v.nw<=64000*1000:=⟨Int.mul_nonneg (by omega) (by omega),Int.mul_le_mul (by omega) (by omega) (by omega) (by omega)⟩;clear h
 go_enter func143,ntmps143
 go_wp2
 go_region
 all_goals
  go_wp2;go_ret;exact⟨rfl,(Below.refl _ _).drew⟩
end
section
open Go.RowKit
theorem A9{P:Program}{ops:Array Oper}{o:Oper}{a:Act}{w:zd}{K:Act->zd->Prop}{Q:Exit->Act->zd->Prop}{E:Prop}(lY:o.guard=zb)(f:FuncId)(xs:Array Operand)(ats:Array zj)
  (ho:o.op=.call {callee:=.value (.func f),args:=xs,argTypes:=ats}) (args:Array zf) (Ck:(#[]++xs.map a.eval++#[]:Array zf)=args) (R:zf->zd->Prop) (pK:(callFunc f args).run P w=.ok (.enter f args) w)
  (hc:zh P f args w λe w'=>∃v,e=.returned v/\R v w') (h:∀v w',R v w'->K (a.put o.dst v) w'):
  if Region.wanted o (yielded ops a.tmps)=true then Oper.wp P o a w K Q else E:=by
 have hw:Region.wanted o (yielded ops a.tmps)=true:=by simp[Region.wanted,lY]
 rw[aD hw];obtain⟨dst,op,type,pos,after,guard⟩:=o;simp only at ho;subst ho;unfold Oper.wp;rw[execOp_call_go,Ck];rw[pK,Oper.upon_enter];refine hc.mono ?_;rintro e w' ⟨v,rfl,hR⟩;exact h v w' hR
end
variable {w W:zd}{B n nw bt n' ga gl ha hl:Nat}{mk fr mk' fr' A L A' L':Nat -> Nat}{f f':Nat -> Nat -> Bool}{F F':Nat -> Nat -> Nat}{b c:Bool}{D E:Nat -> Prop}{M N:PA}{sv fv:zf}
open Go.RowKit
theorem LO(xs:Array zf)(w:zd):(callFunc 163 xs).run prog w=.ok (.enter 163 xs) w:=by kernel_rfl
theorem Pp(xs:Array zf)(w:zd):(callFunc 187 xs).run prog w=.ok (.enter 187 xs) w:=by kernel_rfl
theorem zk1(xs:Array zf)(w:zd):(callFunc 188 xs).run prog w=.ok (.enter 188 xs) w:=by kernel_rfl
def KU(w W:zd):Prop:=∀(k:Nat) (cs:Array zf) (t:zj),w.heap[k]?=za (zg cs t (0,0))->t≠236->W.heap[k]?=za (zg cs t (0,0))
theorem KU.of{S:Nat->Prop}(t:aE S w W)(hS:∀k,k<w.heap.size->S k->∃m T,aH w m k T):KU w W:=λk cs u hk hu=>by
 have hlt:=(ap.1 hk).1;refine(t.same k hlt (λhs=>?_)).trans hk;obtain⟨m,T,hp⟩:=hS k hlt hs;have:=hp.row;rw[hk]at this;exact hu (bP this)
def jZ(B:Nat)(w:zd)(n nw bt:Nat)(mk:Nat->Nat)(f:Nat->Nat->Bool)(fr:Nat->Nat)(F:Nat->Nat->Nat)(W:zd)(n' ga gl:Nat)(b:Bool)(M:PA):Prop:=
 ∃(sv fv:zf) (mk':Nat->Nat) (f':Nat->Nat->Bool) (fr':Nat->Nat) (F':Nat->Nat->Nat) (A L:Nat->Nat),fK B w n nw bt mk f fr F W n' ga gl b M sv fv mk' f' fr' F' A L
theorem zp7
  (h:yA B w n nw bt mk f fr F W n' ga gl ha hl b c D E M N sv fv mk' f' fr' F' A L A' L'):
  zh prog 187 #[zc (za ⟨bt,0,zb⟩),zi #[.bool b,ze (za ⟨ga,0,zb⟩) nw nw,ze (za ⟨gl,0,zb⟩) nw nw],zi #[.bool c,ze (za ⟨ha,0,zb⟩) nw nw,ze (za ⟨hl,0,zb⟩) nw nw]] W λe W2=>
   e=.returned (zi #[.bool (b&&c),ze (za ⟨ga,0,zb⟩) nw nw,ze (za ⟨hl,0,zb⟩) nw nw])/\jZ B w n nw bt mk f fr F W2 n' ga hl (b&&c) (PA.seq M N)/\KU W W2:=by
 refine(zlH n' nw bt ga gl ha hl b c sv fv fr' F' A L A' L' W h.tk.l h.x h.y h.aa h.al h.ll h.e1 h.e2 h.e3 h.e4 (λp _ hp=>((h.un p).1 (.inl (h.gx.la p hp))).2)).mono λe W2 hs=>⟨hs.1,⟨_,_,_,_,_,_,_,_,h.seq hs⟩,KU.of hs.2.2.2 (λk _ e=>?_)⟩
 rcases e with rfl|rfl|⟨p,hp,rfl⟩
 ·exact⟨_,_,h.x.fi⟩
 ·exact⟨_,_,h.y.la⟩
 ·exact⟨_,_,h.tk.fol.rows p hp⟩
theorem zst
  (h:yA B w n nw bt mk f fr F W n' ga gl ha hl b c D E M N sv fv mk' f' fr' F' A L A' L'):
  zh prog 188 #[zc (za ⟨bt,0,zb⟩),zi #[.bool b,ze (za ⟨ga,0,zb⟩) nw nw,ze (za ⟨gl,0,zb⟩) nw nw],zi #[.bool c,ze (za ⟨ha,0,zb⟩) nw nw,ze (za ⟨hl,0,zb⟩) nw nw]] W λe W2=>
   e=.returned (zi #[.bool (b || c),ze (za ⟨ga,0,zb⟩) nw nw,ze (za ⟨gl,0,zb⟩) nw nw])/\jZ B w n nw bt mk f fr F W2 n' ga gl (b || c) (PA.aQ M N)/\KU W W2:=by
 refine(zoC nw bt ga gl ha hl b c A L A' L' W h.x h.y h.aa h.al h.ll h.tk.gY).mono λe W2 hs=>⟨hs.1,⟨_,_,_,_,_,_,_,_,h.aQ hs.2.1 hs.2.2⟩,KU.of hs.2.2 (λk _ e=>?_)⟩
 rcases e with rfl|rfl
 ·exact⟨_,_,h.x.fi⟩
 ·exact⟨_,_,h.x.la⟩
theorem zrX
  (h:fK B w n nw bt mk f fr F W n' ga gl b M sv fv mk' f' fr' F' A L):
  zh prog 202 #[zc (za ⟨bt,0,zb⟩),ze (za ⟨gl,0,zb⟩) nw nw,ze (za ⟨ga,0,zb⟩) nw nw] W λe W2=>
   e=.returned (.tuple #[])/\jZ B w n nw bt mk f fr F W2 n' ga gl true (PA.star M)/\KU W W2:=by
 refine(zmi n' nw bt gl nw ga nw sv fv fr' F' L A W h.tk.l h.fg.la h.fg.fi h.el h.ea (λp _ hp=>(h.iV.la p hp).2)).mono λe W2 hs=>⟨hs.1,⟨_,_,_,_,_,_,_,_,h.star hs.2.1 hs.2.2⟩,KU.of hs.2.2 (λk _ ⟨p,hp,e⟩=>⟨_,_,e ▸ h.tk.fol.rows p hp⟩)⟩
def qk(p:Pt):Prop:=∀(B n nw bt:Nat) (sv fv:zf) (mk:Nat->Nat) (f:Nat->Nat->Bool) (fr:Nat->Nat) (F:Nat->Nat->Nat) (w:zd) (v:zf),jp B w n nw bt sv fv mk f fr F->aR w v p->aF p<=2000->n+(aF p).toNat<=64*nw->
 zh prog 163 #[zc (za ⟨bt,0,zb⟩),v] w λe W=>zT B w n nw bt mk f fr F (aF p).toNat (bY p n) e W
end Go.Proofs.YtdimhpfiieepiaaGreatDoor
