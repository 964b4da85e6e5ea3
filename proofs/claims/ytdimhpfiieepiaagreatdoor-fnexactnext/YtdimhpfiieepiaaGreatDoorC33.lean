import Derived.Test.YtdimhpfiieepiaaGreatDoorC32
namespace Go.Proofs.YtdimhpfiieepiaaGreatDoor
set_option maxHeartbeats 1000000
set_option maxRecDepth 100000
section
def zeE(nw:Nat)(T:Nat->Nat)(P:Nat->Prop):Prop:=∀q,q<64*nw->(zai T q=true↔P q)
structure zdT(M:PA)(n nw:Nat)(f:Nat->Nat->Bool)(F G:Nat->Nat->Nat)(X Y:Nat->Nat):Prop where
 n64:n<=64*nw
 D:∀p,M.D p↔p<n
 fi:∀p,M.first p->M.D p
 la:∀p,M.last p->M.D p
 fo:∀p q,M.D p->M.fol p q->M.D q
 tk:∀p (c:UInt8),p<n->(M.tk p c↔f p c.toNat=true)
 fw:∀p q,p<n->q<64*nw->(zai (F p) q=true↔M.fol p q)
 bw:∀p q,p<n->q<n->(zai (G p) q=true↔M.fol q p)
 xs:∀q,q<64*nw->(zai X q=true↔M.first q)
 ys:∀q,q<64*nw->(zai Y q=true↔M.last q)
section
variable {M:PA} {n nw:Nat} {f:Nat->Nat->Bool} {F G:Nat->Nat->Nat} {X Y:Nat->Nat} {u:Word} {E:Nat->Prop}
theorem Back.lt(h:zdT M n nw f F G X Y){i p:Nat}(hb:Back u M E i p):p<n:=by
 obtain⟨_,_,_,h1⟩:=hb.byte;exact(h.D p).1 h1
theorem zoL(h:zdT M n nw f F G X Y){i:Nat}{c:UInt8}(hc:u[i]?=some c){T U:Nat->Nat}{b:Bool}(hb:b=true↔E (i+1))(hTn:∀q,q<64*nw->zai T q=true->q<n)(hUn:∀q,q<64*nw->zai U q=true->q<n)(hT:zeE nw T (Back u M E (i+1)))(hs:zgz nw f G Y T c.toNat b U):zeE nw U (Back u M E i):=fun q hq=>by
 have hn:=h.n64;rw[hs q hq,zoM hc];constructor
 ·rintro ⟨h1,h2⟩;have hqn:q<n:=hUn q hq ((hs q hq).2 ⟨h1,h2⟩);refine⟨(h.tk q c hqn).2 h1,(h.D q).2 hqn,?_⟩;rcases h2 with ⟨p,h3,h4,h5⟩|⟨h3,h4⟩
  ·have hpn:=hTn p h3 h4;exact .inr ⟨p,(h.bw p q hpn hqn).1 h5,(hT p h3).1 h4⟩
  ·exact .inl ⟨(h.ys q hq).1 h4,hb.1 h3⟩
 ·rintro ⟨h1,h2,h3⟩;have hqn:=(h.D q).1 h2;refine⟨(h.tk q c hqn).1 h1,?_⟩;rcases h3 with ⟨h3,h4⟩|⟨p,h3,h4⟩
  ·exact .inr ⟨hb.2 h4,(h.ys q hq).2 h3⟩
  ·have hpn:=Back.lt h h4;exact .inl ⟨p,by omega,(hT p (by omega)).2 h4,(h.bw p q hpn hqn).2 h3⟩
theorem zro(h:zdT M n nw f F G X Y){i j:Nat}(hij:i<=j){c:UInt8}(hc:u[j]?=some c){T U:Nat->Nat}{b:Bool}(hb:b=true↔j=i)(hTn:∀q,q<64*nw->zai T q=true->q<n)(hUn:∀q,q<64*nw->zai U q=true->q<n)(hT:zeE nw T (Fwd u M i j))(hs:zgz nw f F X T c.toNat b U):zeE nw U (Fwd u M i (j+1)):=fun q hq=>by
 have hn:=h.n64;rw[hs q hq]
 by_cases e:i<j
 ·rw[ze3 e hc];constructor
  ·rintro ⟨h1,h2⟩;have hqn:q<n:=hUn q hq ((hs q hq).2 ⟨h1,h2⟩);rcases h2 with ⟨p,h3,h4,h5⟩|⟨h3,_⟩
   ·exact⟨p,(hT p h3).1 h4,(h.fw p q (hTn p h3 h4) hq).1 h5,(h.tk q c hqn).2 h1⟩
   ·have:=hb.1 h3;omega
  ·rintro ⟨p,h1,h2,h3⟩;have hpD:=h1.2.2.inside h.fi h.fo;have hpn:=(h.D p).1 hpD;have hqn:=(h.D q).1 (h.fo p q hpD h2);exact⟨(h.tk q c hqn).1 h3,.inl ⟨p,by omega,(hT p (by omega)).2 h1,(h.fw p q hpn hq).2 h2⟩⟩
 ·obtain rfl:i=j:=by omega
  rw[ziZ hc];constructor
  ·rintro ⟨h1,h2⟩;have hqn:q<n:=hUn q hq ((hs q hq).2 ⟨h1,h2⟩);rcases h2 with ⟨p,h3,h4,_⟩|⟨_,h3⟩
   ·have:=((hT p h3).1 h4).1;omega
   ·exact⟨(h.xs q hq).1 h3,(h.tk q c hqn).2 h1⟩
  ·rintro ⟨h1,h2⟩;have hqn:=(h.D q).1 (h.fi q h1);exact⟨(h.tk q c hqn).1 h2,.inr ⟨hb.2 rfl,(h.xs q hq).2 h1⟩⟩
theorem zjG{hi:Nat}(hE:∀m,E m->m<=hi){i p:Nat}(h:Back u M E i p):i<hi:=by
 induction h with
 |stop i p c h1 h2 h3 h4 h5=>have:=hE _ h5;omega
 |on i p q c h1 h2 h3 h4 h5 ih=>omega
theorem zq9{k:Nat}(hE:∀m,m<=k->¬E m)(hk:∀p,¬Back u M E k p){i p:Nat}(h:Back u M E i p):k<i:=by
 induction h with
 |stop i p c h1 h2 h3 h4 h5=>
  rcases zvM k i with a|a
  ·exact a
  ·rcases zvM k (i+1) with b|b
   ·obtain rfl:i=k:=by omega
    exact absurd (.stop i p c h1 h2 h3 h4 h5) (hk p)
   ·exact absurd h5 (hE _ b)
 |on i p q c h1 h2 h3 h4 h5 ih=>
  rcases zvM k i with a|a
  ·exact a
  ·obtain rfl:i=k:=by omega
   exact absurd (.on i p q c h1 h2 h3 h4 h5) (hk p)
theorem zst(h:zdT M n nw f F G X Y){T:Nat->Nat}(hl:∀x,T x<18446744073709551616){i:Nat}(hT:zeE nw T (Back u M E i)):Sta u M E i↔(E i/\M.e)\/zcO nw T X=true:=by
 have hn:=h.n64;rw[zgZ nw T X hl];refine or_congr Iff.rfl ⟨fun⟨p,h1,h2⟩=>?_,fun⟨p,h1,h2,h3⟩=>⟨p,(h.xs p h1).1 h3,(hT p h1).1 h2⟩⟩;have:=Back.lt h h2;exact⟨p,by omega,(hT p (by omega)).2 h2,(h.xs p (by omega)).2 h1⟩
theorem zri(h:zdT M n nw f F G X Y){T:Nat->Nat}(hl:∀x,T x<18446744073709551616){i j:Nat}(hT:zeE nw T (Fwd u M i j)):(∃p,Fwd u M i j p/\M.last p)↔zcO nw T Y=true:=by
 have hn:=h.n64;rw[zgZ nw T Y hl];refine⟨fun⟨p,h1,h2⟩=>?_,fun⟨p,h1,h2,h3⟩=>⟨p,(hT p h1).1 h2,(h.ys p h1).1 h3⟩⟩;have:=(h.D p).1 (h.la p h2);exact⟨p,by omega,(hT p (by omega)).2 h1,(h.ys p (by omega)).2 h2⟩
end
end
section
variable{s n nw bt ga gl:Nat}{w w':World}{lv:Value}{Lk:Nat -> Nat -> Nat}{A L:Nat -> Nat}{f:Nat -> Nat -> Bool}{O:Nat -> Prop}
open Go.RowKit
attribute [local go_sem ↓] Go.wp_at_zero Go.wp_at_succ
structure StV where
 b0:Nat
 B:Nat
 n:Nat
 nw:Nat
 bt:Nat
 ga:Nat
 gl:Nat
 sv:Value
 fa:Option Addr
 fc:Nat
 ba:Option Addr
 bc:Nat
 fr:Nat->Nat
 br:Nat->Nat
 mr:Nat->Nat
 f:Nat->Nat->Bool
 F:Nat->Nat->Nat
 G:Nat->Nat->Nat
 A:Nat->Nat
 L:Nat->Nat
 e:Bool
structure RdV where
 r:Nat
 gm:Nat
 gv:Nat
 sS:Value
 sP:Value
 gx:Nat->Nat
 Ts:Nat->Nat->Nat
 m:Nat
 es:List (Int×Int)
structure StdC(w:World)(s:Nat)(v:StV):Prop where
 c1:StC v.B w v.n v.nw v.bt v.ga v.gl (.slice v.fa v.n v.fc) v.sv (.slice v.fa v.n v.fc) v.fr v.mr v.F v.A v.L v.f
 c2:StC v.B w v.n v.nw v.bt v.gl v.ga (.slice v.ba v.n v.bc) v.sv (.slice v.fa v.n v.fc) v.br v.mr v.G v.L v.A v.f
 p0:0<v.b0
 s0:v.b0<=s
 s1:s<v.B
 tb:v.b0<=v.bt
 ab:v.b0<=v.ga
 lb:v.b0<=v.gl
 sb:∀k,v.sv.ownBlock=some k->v.b0<=k/\k≠s
 fb:∀k,(Value.slice v.fa v.n v.fc).ownBlock=some k->v.b0<=k/\k≠s
 bb:∀k,(Value.slice v.ba v.n v.bc).ownBlock=some k->v.b0<=k/\k≠s
 frb:∀p,p<v.n->v.b0<=v.fr p
 brb:∀p,p<v.n->v.b0<=v.br p
 ne:v.bt≠s/\v.ga≠s/\v.gl≠s/\∀p,p<v.n->v.fr p≠s/\v.br p≠s
theorem StC.keepW{B b0:Nat}{sv fv:Value}{lr mk:Nat->Nat}(h:StC B w n nw bt ga gl lv sv fv lr mk Lk A L f)
  (h1:b0<=bt/\bt≠s) (h2:b0<=ga/\ga≠s) (h3:b0<=gl/\gl≠s) (h4:∀k,sv.ownBlock=some k->b0<=k/\k≠s) (h5:∀k,lv.ownBlock=some k->b0<=k/\k≠s) (h6:∀p,p<n->b0<=lr p/\lr p≠s)
  (hk:∀k,b0<=k->k<B->k≠s->w'.heap[k]?=w.heap[k]?) (hm:zaT w w') (hz:w'.heap[0]?=w.heap[0]?) (hs:B<=w'.heap.size):StC B w' n nw bt ga gl lv sv fv lr mk Lk A L f:=by
 have hc:∀k o,b0<=k->k<B->k≠s->w'.cell? ⟨k,o,none⟩=w.cell? ⟨k,o,none⟩:=fun k o g1 g2 g3=>World.cell?_of_block (hk k g1 g2 g3)
 have hp:∀{g:Nat} {T:Nat->Nat},zar w nw g T->b0<=g->g<B->g≠s->zar w' nw g T:=fun h g1 g2 g3=>⟨(hk _ g1 g2 g3).trans h.row,h.lt⟩
 refine⟨(hk bt h1.1 h.btB h1.2).trans h.box,h.btB,fun hn=>?_,fun p hn=>⟨hm _ _ (h.mks p hn).1,(h.mks p hn).2⟩,fun hn=>?_,fun p hn=>⟨hp (h.lrs p hn).1 (h6 p hn).1 (h.lrs p hn).2 (h6 p hn).2,(h.lrs p hn).2⟩,⟨hp h.pa.1 h2.1 h.pa.2 h2.2,h.pa.2⟩,⟨hp h.pl.1 h3.1 h.pl.2 h3.2,h.pl.2⟩,h.bru.keep hz,h.pos,hs,h.n64,h.nwl,h.lb,h.ab⟩
 ·obtain⟨gs,cs,e,hl,k⟩:=h.svs hn;have:=h4 gs (by rw[e];rfl);exact⟨gs,cs,e,hl,fun p hp=>(hc _ _ this.1 hl this.2).trans (k p hp)⟩
 ·obtain⟨gs,cs,e,hl,k⟩:=h.lvs hn;have:=h5 gs (by rw[e];rfl);exact⟨gs,cs,e,hl,fun p hp=>(hc _ _ this.1 hl this.2).trans (k p hp)⟩
theorem StdC.keep{v:StV}(h:StdC w s v)(hk:∀k,v.b0<=k->k<v.B->k≠s->w'.heap[k]?=w.heap[k]?)(hm:zaT w w')(hz:w'.heap[0]?=w.heap[0]?)(hs:w.heap.size<=w'.heap.size):StdC w' s v:=
 ⟨h.c1.keepW (s:=s) ⟨h.tb,h.ne.1⟩ ⟨h.ab,h.ne.2.1⟩ ⟨h.lb,h.ne.2.2.1⟩ h.sb h.fb (fun p hp=>⟨h.frb p hp,(h.ne.2.2.2 p hp).1⟩) hk hm hz (zvK h.c1.le hs),h.c2.keepW (s:=s) ⟨h.tb,h.ne.1⟩ ⟨h.lb,h.ne.2.2.1⟩ ⟨h.ab,h.ne.2.1⟩ h.sb h.bb (fun p hp=>⟨h.brb p hp,(h.ne.2.2.2 p hp).2⟩) hk hm hz (zvK h.c2.le hs),h.p0,h.s0,h.s1,h.tb,h.ab,h.lb,h.sb,h.fb,h.bb,h.frb,h.brb,h.ne⟩
structure RdAt(O:Nat->Prop)(w:World)(n nw bt ga gl:Nat)(lv:Value)(f:Nat->Nat->Bool)(Lk:Nat->Nat->Nat)(A L:Nat->Nat)(v:RdV):Prop where
 s:RdS O w v.r nw bt ga gl lv L v.gm v.gv v.sS v.sP v.gx v.Ts v.m v.es
 mv:MvOk nw f Lk A v.Ts v.m v.es
 sets:zk4 n nw v.Ts v.m
 zero:∀x,x<nw->v.Ts 0 x=0
 pos:0<v.m
theorem RdAt.keep{v:RdV}(h:RdAt O w n nw bt ga gl lv f Lk A L v)(hk:∀k,O k->k<w.heap.size->w'.heap[k]?=w.heap[k]?):RdAt O w' n nw bt ga gl lv f Lk A L v:=
 ⟨h.s.keep hk,h.mv,h.sets,h.zero,h.pos⟩
def zjv(v:StV)(x y:Value):Array Value:=#[.pointer (some ⟨v.bt,0,none⟩),.bool v.e,.slice (some ⟨v.ga,0,none⟩) v.nw v.nw,.slice (some ⟨v.gl,0,none⟩) v.nw v.nw,.slice v.ba v.n v.bc,x,y]
structure Strd(O1 O2:Nat->Prop)(w:World)(s:Nat)(v:StV)(a b:RdV):Prop where
 box:w.heap[s]?=some (.cells (zjv v (.pointer (some ⟨a.r,0,none⟩)) (.pointer (some ⟨b.r,0,none⟩))) 229 (0,0))
 c:StdC w s v
 ra:RdAt O1 w v.n v.nw v.bt v.ga v.gl (.slice v.fa v.n v.fc) v.f v.F v.A v.L a
 rb:RdAt O2 w v.n v.nw v.bt v.gl v.ga (.slice v.ba v.n v.bc) v.f v.G v.L v.A b
 o1:∀k,O1 k->v.B<=k/\k<w.heap.size
 o2:∀k,O2 k->v.B<=k/\k<w.heap.size
 o12:∀k,O1 k->¬O2 k
theorem Strd.keep{O1 O2:Nat->Prop}{v:StV}{a b:RdV}(h:Strd O1 O2 w s v a b)(hk:∀k,(v.b0<=k/\k<v.B)\/O1 k\/O2 k->w'.heap[k]?=w.heap[k]?)(hm:zaT w w')(hz:w'.heap[0]?=w.heap[0]?)(hs:w.heap.size<=w'.heap.size):Strd O1 O2 w' s v a b:=
 ⟨(hk s (.inl ⟨h.c.s0,h.c.s1⟩)).trans h.box,h.c.keep (fun k h1 h2 _=>hk k (.inl ⟨h1,h2⟩)) hm hz hs,h.ra.keep fun k h1 _=>hk k (.inr (.inl h1)),h.rb.keep fun k h1 _=>hk k (.inr (.inr h1)),fun k h1=>⟨(h.o1 k h1).1,zvL (h.o1 k h1).2 hs⟩,fun k h1=>⟨(h.o2 k h1).1,zvL (h.o2 k h1).2 hs⟩,h.o12⟩
theorem zaS{g:Nat}{a0 a1 a2 a3 a4 a5 a6:Value}{t:TypeId}(h:w.heap[g]?=some (.cells #[a0,a1,a2,a3,a4,a5,a6] t (0,0))):w.cell? ⟨g,0,none⟩=some a0/\w.cell? ⟨g,1,none⟩=some a1/\w.cell? ⟨g,2,none⟩=some a2/\w.cell? ⟨g,3,none⟩=some a3/\w.cell? ⟨g,4,none⟩=some a4/\w.cell? ⟨g,5,none⟩=some a5/\w.cell? ⟨g,6,none⟩=some a6:=by
 have:∀o,w.cell? ⟨g,o,none⟩=#[a0,a1,a2,a3,a4,a5,a6][o]?:=fun _=>zvW _ _ _ _ _ _ h
 exact⟨this 0,this 1,this 2,this 3,this 4,this 5,this 6⟩
theorem RdAt.first{r gm gv:Nat}{sS sP:Value}{gx:Nat->Nat}{Ts:Nat->Nat->Nat}(h:RdS O w r nw bt ga gl lv L gm gv sS sP gx Ts 1 [])(hz:∀x,x<nw->Ts 0 x=0):RdAt O w n nw bt ga gl lv f Lk A L ⟨r,gm,gv,sS,sP,gx,Ts,1,[]⟩:=by
 refine⟨h,fun k hk=>by simp[zbp] at hk,fun i q hi hq hb=>?_,hz,by simp⟩;have e:i=0:=by simp at hi;omega
 subst e;have:=hz (q/64) (by omega);unfold zai at hb;simp[this] at hb
end
section
open Go.RowKit
attribute [local go_sem ↓] Go.wp_at_zero Go.wp_at_succ
def FgP(w:World)(s:Nat)(v:StV)(w':World):Prop:=
 ∃(a b:RdV) (O1 O2:Nat->Prop),Strd O1 O2 w' s v a b/\a.m=1/\b.m=1/\(∀k,O1 k\/O2 k->w.heap.size<=k)/\zam (· = s) w w'
theorem zj1(s:Nat)(v:StV)(x y:Value)(w:World)(hbox:w.heap[s]?=some (.cells (zjv v x y) 229 (0,0)))(hC:StdC w s v):
  Calls Tryz.prog 141 #[.pointer (some ⟨s,0,none⟩)] w fun e w'=>e=.returned (.tuple #[])/\FgP w s v w':=by
 obtain⟨c0,c1,c2,c3,c4,c5,c6⟩:=zaS hbox;have f5:=zvY _ _ 5 _ _ hbox;obtain⟨t0,t1,t2,-⟩:=zaf hC.c1.box;have hsl:s<w.heap.size:=(zuH.1 hbox).1;have hn1:=zf8 v.nw v.bt v.ga v.gl v.n v.fc v.fa v.sv (.slice v.fa v.n v.fc) v.L w.drew hC.c1.box ⟨hC.c1.pl.1.row,hC.c1.pl.1.lt⟩ hC.c1.nwl;have hn2:∀(w1:World),Below w.drew.heap.size w.drew w1->∀(r1:Nat),Calls Tryz.prog 161 #[.pointer (some ⟨v.bt,0,none⟩),.slice v.ba v.n v.bc,.slice (some ⟨v.gl,0,none⟩) v.nw v.nw,.slice (some ⟨v.ga,0,none⟩) v.nw v.nw] (w1.setCell ⟨s,5,none⟩ (.pointer (some ⟨r1,0,none⟩))).drew fun e w2=>NewP (w1.setCell ⟨s,5,none⟩ (.pointer (some ⟨r1,0,none⟩))).drew v.nw v.bt v.gl v.ga (.slice v.ba v.n v.bc) v.A e w2:=fun w1 hb r1=>by
  have hk:∀k,k<w.heap.size->k≠s->(w1.setCell ⟨s,5,none⟩ (.pointer (some ⟨r1,0,none⟩))).heap[k]?=w.heap[k]?:=fun k h1 h2=>by
   rw[zv0 _ _ _ _ (show k≠s from h2)];exact hb.block k h1
  have hle:=hC.c1.le;have h1:=hC.c1.btB;have h2:=hC.c1.pa.2;exact zf8 v.nw v.bt v.gl v.ga v.n v.bc v.ba v.sv (.slice v.fa v.n v.fc) v.A _ ((hk v.bt (by omega) hC.ne.1).trans hC.c1.box) ⟨(hk v.ga (by omega) hC.ne.2.1).trans hC.c1.pa.1.row,hC.c1.pa.1.lt⟩ hC.c1.nwl
 have Hfin:Hid (∀w1 r1 gm1 gv1 sS1 sP1 gx1 Ts1,Below w.drew.heap.size w.drew w1->RdS (fun k=>w.heap.size<=k/\k<w1.heap.size) w1 r1 v.nw v.bt v.ga v.gl (.slice v.fa v.n v.fc) v.L gm1 gv1 sS1 sP1 gx1 Ts1 1 []->(∀x,x<v.nw->Ts1 0 x=0)->
   ∀w2 r2 gm2 gv2 sS2 sP2 gx2 Ts2,Below w1.heap.size (w1.setCell ⟨s,5,none⟩ (.pointer (some ⟨r1,0,none⟩))).drew w2->RdS (fun k=>w1.heap.size<=k/\k<w2.heap.size) w2 r2 v.nw v.bt v.gl v.ga (.slice v.ba v.n v.bc) v.A gm2 gv2 sS2 sP2 gx2 Ts2 1 []->(∀x,x<v.nw->Ts2 0 x=0)->
   FgP w s v (w2.setCell ⟨s,6,none⟩ (.pointer (some ⟨r2,0,none⟩)))):=by
  intro w1 r1 gm1 gv1 sS1 sP1 gx1 Ts1 hb1 hR1 hz1 w2 r2 gm2 gv2 sS2 sP2 gx2 Ts2 hb2 hR2 hz2;have s1:w.heap.size<=w1.heap.size:=hb1.size;have s2:w1.heap.size<=w2.heap.size:=by simpa using hb2.size
  have o1:∀k,k≠s->k<w1.heap.size->w2.heap[k]?=w1.heap[k]?:=fun k h1 h2=>(hb2.block k h2).trans (by show (w1.setCell _ _).heap[k]?=_;exact zv0 _ _ _ _ (show k≠s from h1))
  have o2:∀k,k≠s->(w2.setCell ⟨s,6,none⟩ (.pointer (some ⟨r2,0,none⟩))).heap[k]?=w2.heap[k]?:=fun k h1=>zv0 _ _ _ _ (show k≠s from h1)
  have oo:∀k,k≠s->k<w.heap.size->(w2.setCell ⟨s,6,none⟩ (.pointer (some ⟨r2,0,none⟩))).heap[k]?=w.heap[k]?:=fun k h1 h2=>(o2 k h1).trans ((o1 k h1 (by omega)).trans (hb1.block k h2))
  have b1:w1.heap[s]?=some (.cells (zjv v x y) 229 (0,0)):=(hb1.block s hsl).trans hbox;have b2:=zv1 w1 s 5 _ _ (.pointer (some ⟨r1,0,none⟩)) b1;have b3:w2.heap[s]?=_:=(hb2.block s (by omega)).trans b2;have b4:=zv1 w2 s 6 _ _ (.pointer (some ⟨r2,0,none⟩)) b3;have hz0:(0:Nat)≠s:=by have:=hC.p0;have:=hC.s0;omega
  have hpos:=hC.c1.pos;have hle:=hC.c1.le;have hk:zaT w (w2.setCell ⟨s,6,none⟩ (.pointer (some ⟨r2,0,none⟩))):=fun k _ e=>by
   have hne:k≠s:=fun e2=>by rw[e2,hbox] at e;exact absurd (zad e) (by decide)
   exact(oo k hne (zuH.1 e).1).trans e
  refine⟨⟨r1,gm1,gv1,sS1,sP1,gx1,Ts1,1,[]⟩,⟨r2,gm2,gv2,sS2,sP2,gx2,Ts2,1,[]⟩,fun k=>w.heap.size<=k/\k<w1.heap.size,fun k=>w1.heap.size<=k/\k<w2.heap.size,⟨b4,hC.keep (fun k h1 h2 h3=>oo k h3 (by omega)) hk (oo 0 hz0 (by omega)) (by simp;omega),RdAt.first (hR1.keep fun k h1 _=>(o2 k (by omega)).trans (o1 k (by omega) h1.2)) hz1,RdAt.first (hR2.keep fun k h1 _=>o2 k (by omega)) hz2,fun k h1=>⟨by omega,by simp;omega⟩,fun k h1=>⟨by omega,by simp;omega⟩,fun k h1 h2=>by omega⟩,rfl,rfl,fun k h1=>by omega,hb2.os.trans hb1.os,hb2.tape.trans hb1.tape,hb2.output.trans hb1.output,by simp;omega,fun k h1 h2=>oo k h2 h1⟩
 have Hhid:Hid (StdC w s v):=hC;have hbb:=hC.c1.btB;have hBl:=hC.c1.le;have hbs:=hC.ne.1;have HC1:Hid (∀w1:World,Below w.drew.heap.size w.drew w1->∀r1:Nat,w1.heap[s]?=some (.cells (zjv v x y) 229 (0,0))/\w1.cell? ⟨v.bt,2,none⟩=some (.slice v.fa v.n v.fc)/\(w1.setCell ⟨s,5,none⟩ (.pointer (some ⟨r1,0,none⟩))).heap[s]?=some (.cells (zjv v (.pointer (some ⟨r1,0,none⟩)) y) 229 (0,0))/\(w1.setCell ⟨s,5,none⟩ (.pointer (some ⟨r1,0,none⟩))).cell? ⟨v.bt,2,none⟩=some (.slice v.fa v.n v.fc)):=fun w1 hb r1=>by
  have e1:=(hb.block s hsl).trans hbox;have e2:=(hb.cell (p:=⟨v.bt,2,none⟩) (by show v.bt<w.heap.size;omega)).trans t2;exact⟨e1,e2,zv1 w1 s 5 _ _ _ e1,(World.cell?_of_block (zv0 _ _ _ _ (show v.bt≠s from hbs))).trans e2⟩
 have HC2:Hid (∀W w2:World,W.heap[s]?=some (.cells (zjv v x y) 229 (0,0))->True):=fun _ _ _=>trivial
 clear HC2 hC hbox
 go_enter Tryz.func141,Tryz.ntmps141
 go_wp2_with fail
 go_region_held3 (fun w'=>w'.cell? ⟨s,0,none⟩=some (.pointer (some ⟨v.bt,0,none⟩))/\w'.cell? ⟨s,2,none⟩=some (.slice (some ⟨v.ga,0,none⟩) v.nw v.nw)/\w'.cell? ⟨s,3,none⟩=some (.slice (some ⟨v.gl,0,none⟩) v.nw v.nw)/\w'.cell? ⟨v.bt,2,none⟩=some (.slice v.fa v.n v.fc)) ((first|exact⟨c0,c2,c3,t2⟩|exact⟨k0,k2,k3,kt⟩|exact⟨j0,j2,j3,jt⟩|go_keep)) ((go_at_call 161;refine hn1.mono ?_;rintro e w1 ⟨r1,gm1,gv1,sS1,sP1,gx1,Ts1,rfl,hR1,hz1,hb1⟩;obtain⟨kb,kt,jb,jt⟩:=HC1.out w1 hb1 r1;obtain⟨k0,k1,k2,k3,k4,k5,k6⟩:=zaS kb;have kf:=zvY _ _ 5 _ _ kb;obtain⟨j0,j1,j2,j3,j4,j5,j6⟩:=zaS jb))
 have hn2':=hn2 w1 hb1 r1;have Hf1:Hid _:=Hfin.out w1 r1 gm1 gv1 sS1 sP1 gx1 Ts1 hb1 hR1 hz1;have hs1:s<w1.heap.size:=(zuH.1 kb).1;obtain⟨X,hX⟩:∃X,w1.setCell ⟨s,5,none⟩ (.pointer (some ⟨r1,0,none⟩))=X:=⟨_,rfl⟩;have hXs:X.heap.size=w1.heap.size:=by rw[<-hX];simp
 rw[hX] at hn2' jb j0 j2 j3 j4 j5 j6 Hf1 ⊢;have HC3:Hid (∀w2:World,Below X.drew.heap.size X.drew w2->∀r2:Nat,w2.heap[s]?=some (.cells (zjv v (.pointer (some ⟨r1,0,none⟩)) y) 229 (0,0))/\(w2.setCell ⟨s,6,none⟩ (.pointer (some ⟨r2,0,none⟩))).heap[s]?=some (.cells (zjv v (.pointer (some ⟨r1,0,none⟩)) (.pointer (some ⟨r2,0,none⟩))) 229 (0,0))):=fun w2 hb r2=>by
  have e1:=(hb.block s (by show s<X.heap.size;omega)).trans jb;exact⟨e1,zv1 w2 s 6 _ _ _ e1⟩
 clear HC1 hn1 hn2 Hfin hR1 hz1 hb1 kb kt k0 k1 k2 k3 k4 k5 k6 kf c0 c1 c2 c3 c4 c5 c6 t0 t1 t2 f5 jb jt j1 j5 j6
 go_wp2_with fail
 go_region_held3 (fun w'=>w'.cell? ⟨s,0,none⟩=some (.pointer (some ⟨v.bt,0,none⟩))/\w'.cell? ⟨s,2,none⟩=some (.slice (some ⟨v.ga,0,none⟩) v.nw v.nw)/\w'.cell? ⟨s,3,none⟩=some (.slice (some ⟨v.gl,0,none⟩) v.nw v.nw)/\w'.cell? ⟨s,4,none⟩=some (.slice v.ba v.n v.bc)) ((first|exact⟨j0,j2,j3,j4⟩|exact⟨k0,k2,k3,k4⟩|exact⟨i0,i2,i3,i4⟩|go_keep)) ((go_at_call 161;refine hn2'.mono ?_;rintro e w2 ⟨r2,gm2,gv2,sS2,sP2,gx2,Ts2,rfl,hR2,hz2,hb2⟩;obtain⟨kb,ib⟩:=HC3.out w2 hb2 r2;obtain⟨k0,k1,k2,k3,k4,k5,k6⟩:=zaS kb;have kf:=zvY _ _ 6 _ _ kb;obtain⟨i0,i1,i2,i3,i4,i5,i6⟩:=zaS ib))
 have H2:Hid _:=Hf1.out w2 r2 gm2 gv2 sS2 sP2 gx2 Ts2 (by rw[<-hXs];exact hb2) (by rw[<-hXs];exact hR2) hz2;clear HC3 hn2' Hf1 hR2 hz2 hb2 kb ib k0 k1 k2 k3 k4 k5 k6 kf i0 i1 i2 i3 i4 i5 i6 j0 j2 j3 j4;go_wp2
 go_end0
 exact⟨rfl,H2.out⟩
end
section
variable{O:Nat -> Prop}{w:World}{n nw bt ga gl:Nat}{lv:Value}{f:Nat -> Nat -> Bool}{Lk:Nat -> Nat -> Nat}{A L:Nat -> Nat}{v:RdV}
open Go.RowKit
attribute [local go_sem ↓] Go.wp_at_zero Go.wp_at_succ
theorem RdAt.rowS(h:RdAt O w n nw bt ga gl lv f Lk A L v):∃g c:Nat,v.sS=.slice (some ⟨g,0,none⟩) v.m c/\g<w.heap.size/\∀i,i<v.m->w.cell? ⟨g,i,none⟩=some (.slice (some ⟨v.gx i,0,none⟩) nw nw):=by
 obtain⟨g,cap,cur,h1,h2,h3⟩:=zbz h.s.so h.pos;exact⟨g,cap,h1,(zuH.1 h2).1,fun i hi=>by rw[zvW _ _ _ _ _ _ h2,h3 i hi];simp[slcL,hi]⟩
theorem RdAt.rowP(h:RdAt O w n nw bt ga gl lv f Lk A L v):∃g c:Nat,v.sP=.slice (some ⟨g,0,none⟩) v.m c/\g<w.heap.size/\∀i,i<v.m->w.cell? ⟨g,i,none⟩=some (.bool (zcO nw (v.Ts i) L)):=by
 obtain⟨g,cap,cur,h1,h2,h3⟩:=zbz h.s.po h.pos;exact⟨g,cap,h1,(zuH.1 h2).1,fun i hi=>by rw[zvW _ _ _ _ _ _ h2,h3 i hi];simp[stL,hi]⟩
theorem zrG(O1 O2:Nat->Prop)(s:Nat)(v:StV)(a b:RdV)(w:World)(h:Strd O1 O2 w s v a b)(ha:a.m<=100000000)(hb:b.m<=100000000):
  Calls Tryz.prog 140 #[.pointer (some ⟨s,0,none⟩)] w fun e w'=>e=.returned (.int .i64 ((a.m:Int)+b.m))/\Below w.heap.size w w':=by
 obtain⟨-,-,-,-,-,c5,c6⟩:=zaS h.box;have a5:=(zaW h.ra.s.box).2.2.2.2.2.1;have b5:=(zaW h.rb.s.box).2.2.2.2.2.1;obtain⟨g1,k1,e1,-⟩:=h.ra.rowS;obtain⟨g2,k2,e2,-⟩:=h.rb.rowS;rw[e1] at a5;rw[e2] at b5;clear e1 e2 h
 go_enter Tryz.func140,Tryz.ntmps140
 go_wp2
 go_region
 all_goals
  go_wp2;go_ret;exact⟨rfl,(Below.refl _ _).drew⟩
theorem ztG(O1 O2:Nat->Prop)(s:Nat)(v:StV)(a b:RdV)(w:World)(h:Strd O1 O2 w s v a b)(hn:v.n<=64000):
  Calls Tryz.prog 143 #[.pointer (some ⟨s,0,none⟩)] w fun e w'=>e=.returned (.int .i64 ((v.n:Int)*v.nw))/\Below w.heap.size w w':=by
 obtain⟨c0,-,-,-,c4,-,-⟩:=zaS h.box;obtain⟨t0,-,-,-⟩:=zaf h.c.c1.box;have hnw:=h.c.c1.nwl;have hm:(0:Int)<=(v.n:Int)*v.nw/\(v.n:Int)*v.nw<=64000*1000:=⟨Int.mul_nonneg (by omega) (by omega),Int.mul_le_mul (by omega) (by omega) (by omega) (by omega)⟩;clear h
 go_enter Tryz.func143,Tryz.ntmps143
 go_wp2
 go_region
 all_goals
  go_wp2;go_ret;exact⟨rfl,(Below.refl _ _).drew⟩
end
section
open Go.RowKit
theorem zcQ{P:Program}{ops:Array Oper}{o:Oper}{a:Act}{w:World}{K:Act->World->Prop}{Q:Exit->Act->World->Prop}{E:Prop}(hgd:o.guard=none)(f:FuncId)(xs:Array Operand)(ats:Array TypeId)
  (ho:o.op=.call {callee:=.value (.func f),args:=xs,argTypes:=ats}) (args:Array Value) (hargs:(#[]++xs.map a.eval++#[]:Array Value)=args) (R:Value->World->Prop) (hen:(callFunc f args).run P w=.ok (.enter f args) w)
  (hc:Calls P f args w fun e w'=>∃v,e=.returned v/\R v w') (h:∀v w',R v w'->K (a.put o.dst v) w'):
  if Region.wanted o (yielded ops a.tmps)=true then Oper.wp P o a w K Q else E:=by
 have hw:Region.wanted o (yielded ops a.tmps)=true:=by simp[Region.wanted,hgd]
 rw[zv3 hw];obtain⟨dst,op,type,pos,after,guard⟩:=o;simp only at ho;subst ho;unfold Oper.wp;rw[execOp_call_go,hargs];rw[hen,Oper.upon_enter];refine hc.mono ?_;rintro e w' ⟨v,rfl,hR⟩;exact h v w' hR
end
variable{w W:World}{B n nw bt n' ga gl ha hl:Nat}{mk fr mk' fr' A L A' L':Nat -> Nat}{f f':Nat -> Nat -> Bool}{F F':Nat -> Nat -> Nat}{b c:Bool}{D E:Nat -> Prop}{M N:PA}{sv fv:Value}
open Go.RowKit
theorem zdt(xs:Array Value)(w:World):(callFunc 163 xs).run Tryz.prog w=.ok (.enter 163 xs) w:=by kernel_rfl
theorem zgp(xs:Array Value)(w:World):(callFunc 187 xs).run Tryz.prog w=.ok (.enter 187 xs) w:=by kernel_rfl
theorem zlj(xs:Array Value)(w:World):(callFunc 188 xs).run Tryz.prog w=.ok (.enter 188 xs) w:=by kernel_rfl
def KU(w W:World):Prop:=∀(k:Nat) (cs:Array Value) (t:TypeId),w.heap[k]?=some (.cells cs t (0,0))->t≠236->W.heap[k]?=some (.cells cs t (0,0))
theorem KU.of{S:Nat->Prop}(t:zam S w W)(hS:∀k,k<w.heap.size->S k->∃m T,zar w m k T):KU w W:=fun k cs u hk hu=>by
 have hlt:=(zuH.1 hk).1;refine(t.same k hlt (fun hs=>?_)).trans hk;obtain⟨m,T,hp⟩:=hS k hlt hs;have:=hp.row;rw[hk] at this;exact hu (zad this)
def WrX(B:Nat)(w:World)(n nw bt:Nat)(mk:Nat->Nat)(f:Nat->Nat->Bool)(fr:Nat->Nat)(F:Nat->Nat->Nat)(W:World)(n' ga gl:Nat)(b:Bool)(M:PA):Prop:=
 ∃(sv fv:Value) (mk':Nat->Nat) (f':Nat->Nat->Bool) (fr':Nat->Nat) (F':Nat->Nat->Nat) (A L:Nat->Nat),WrD B w n nw bt mk f fr F W n' ga gl b M sv fv mk' f' fr' F' A L
theorem zqC
  (h:Pair B w n nw bt mk f fr F W n' ga gl ha hl b c D E M N sv fv mk' f' fr' F' A L A' L'):
  Calls Tryz.prog 187 #[.pointer (some ⟨bt,0,none⟩),.agg #[.bool b,.slice (some ⟨ga,0,none⟩) nw nw,.slice (some ⟨gl,0,none⟩) nw nw],.agg #[.bool c,.slice (some ⟨ha,0,none⟩) nw nw,.slice (some ⟨hl,0,none⟩) nw nw]] W fun e W2=>
   e=.returned (.agg #[.bool (b&&c),.slice (some ⟨ga,0,none⟩) nw nw,.slice (some ⟨hl,0,none⟩) nw nw])/\WrX B w n nw bt mk f fr F W2 n' ga hl (b&&c) (PA.seq M N)/\KU W W2:=by
 refine(zmc n' nw bt ga gl ha hl b c sv fv fr' F' A L A' L' W h.tk.l h.x h.y h.aa h.al h.ll h.e1 h.e2 h.e3 h.e4 (fun p _ hp=>((h.un p).1 (.inl (h.gx.la p hp))).2)).mono fun e W2 hs=>⟨hs.1,⟨_,_,_,_,_,_,_,_,h.seq hs⟩,KU.of hs.2.2.2 (fun k _ e=>?_)⟩
 rcases e with rfl|rfl|⟨p,hp,rfl⟩
 ·exact⟨_,_,h.x.fi⟩
 ·exact⟨_,_,h.y.la⟩
 ·exact⟨_,_,h.tk.fol.rows p hp⟩
theorem zs0
  (h:Pair B w n nw bt mk f fr F W n' ga gl ha hl b c D E M N sv fv mk' f' fr' F' A L A' L'):
  Calls Tryz.prog 188 #[.pointer (some ⟨bt,0,none⟩),.agg #[.bool b,.slice (some ⟨ga,0,none⟩) nw nw,.slice (some ⟨gl,0,none⟩) nw nw],.agg #[.bool c,.slice (some ⟨ha,0,none⟩) nw nw,.slice (some ⟨hl,0,none⟩) nw nw]] W fun e W2=>
   e=.returned (.agg #[.bool (b || c),.slice (some ⟨ga,0,none⟩) nw nw,.slice (some ⟨gl,0,none⟩) nw nw])/\WrX B w n nw bt mk f fr F W2 n' ga gl (b || c) (PA.alt M N)/\KU W W2:=by
 refine(zo8 nw bt ga gl ha hl b c A L A' L' W h.x h.y h.aa h.al h.ll h.tk.nwl).mono fun e W2 hs=>⟨hs.1,⟨_,_,_,_,_,_,_,_,h.alt hs.2.1 hs.2.2⟩,KU.of hs.2.2 (fun k _ e=>?_)⟩
 rcases e with rfl|rfl
 ·exact⟨_,_,h.x.fi⟩
 ·exact⟨_,_,h.x.la⟩
theorem zsu
  (h:WrD B w n nw bt mk f fr F W n' ga gl b M sv fv mk' f' fr' F' A L):
  Calls Tryz.prog 202 #[.pointer (some ⟨bt,0,none⟩),.slice (some ⟨gl,0,none⟩) nw nw,.slice (some ⟨ga,0,none⟩) nw nw] W fun e W2=>
   e=.returned (.tuple #[])/\WrX B w n nw bt mk f fr F W2 n' ga gl true (PA.star M)/\KU W W2:=by
 refine(zmN n' nw bt gl nw ga nw sv fv fr' F' L A W h.tk.l h.fg.la h.fg.fi h.el h.ea (fun p _ hp=>(h.good.la p hp).2)).mono fun e W2 hs=>⟨hs.1,⟨_,_,_,_,_,_,_,_,h.star hs.2.1 hs.2.2⟩,KU.of hs.2.2 (fun k _ ⟨p,hp,e⟩=>⟨_,_,e ▸ h.tk.fol.rows p hp⟩)⟩
def WrC(p:Pt):Prop:=∀(B n nw bt:Nat) (sv fv:Value) (mk:Nat->Nat) (f:Nat->Nat->Bool) (fr:Nat->Nat) (F:Nat->Nat->Nat) (w:World) (v:Value),Trk B w n nw bt sv fv mk f fr F->zan w v p->wPt p<=2000->n+(wPt p).toNat<=64*nw->
 Calls Tryz.prog 163 #[.pointer (some ⟨bt,0,none⟩),v] w fun e W=>WrR B w n nw bt mk f fr F (wPt p).toNat (unD p n) e W
end Go.Proofs.YtdimhpfiieepiaaGreatDoor
