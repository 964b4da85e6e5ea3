import Derived.Test.YtfajjdgkiilhfaaC7
namespace Go.Proofs.Ytfajjdgkiilhfaa
open Proofs.Try
open Option renaming none->za,some->zh
open Value renaming slice->zi,int->zn,pointer->zx,agg->zD
open RowKit renaming Hid->zp,Below->zF
open Obj renaming cells->zw
open Go renaming Value->zy,World->zB
set_option maxHeartbeats 8000000
set_option maxRecDepth 100000
open Go.RowKit
attribute [local go_sem ↓] wp_at_zero wp_at_succ
section
variable {R p B D:Nat}{W:zB}{v:Nat -> zy}{l:Nat -> List Int}{a b c d:List Int}{x:Int}
def L4(a b c d:List Int):Nat->List Int
 |0=>a
 |1=>b
 |2=>c
 |_=>d
theorem zrN(h:aS R 4 W v l)(h0:l 0=a)(h1:l 1=b)(h2:l 2=c)(h3:l 3=d):aS R 4 W v (L4 a b c d):=
 ⟨λi hi=>by
  match i,hi with
  |0,_=>have:=h.own 0 (by omega);rw[h0]at this;exact this
  |1,_=>have:=h.own 1 (by omega);rw[h1]at this;exact this
  |2,_=>have:=h.own 2 (by omega);rw[h2]at this;exact this
  |3,_=>have:=h.own 3 (by omega);rw[h3]at this;exact this,h.apart⟩
theorem fJ.to{w:zB}{g:Nat}{width:Int}(h:fJ p w B R g W width v l)(h0:l 0=a)(h1:l 1=b)(h2:l 2=c)(h3:l 3=d):fJ p w B R g W width v (L4 a b c d):=⟨zrN h.aq h0 h1 h2 h3,h.box,h.dv,h.kept,h.base⟩
def fE(c:List UInt8)(wd:Int)(a:Nat):Nat->List Int×Nat
 |0=>(List.replicate 256 0,a)
 |k+1=>((fE c wd a k).1.set (97+k) (af c wd (fE c wd a k).2).1,(af c wd (fE c wd a k).2).2)
def nF(c:List UInt8)(wd:Int)(a:Nat):List Int×Nat:=
 if (af c 3 (fE c wd a 6).2).1=2 then ((fE c wd a 6).1.set (af c 256 (af c 3 (fE c wd a 6).2).2).1.toNat (af c wd (af c 256 (af c 3 (fE c wd a 6).2).2).2).1,(af c wd (af c 256 (af c 3 (fE c wd a 6).2).2).2).2)
 else ((fE c wd a 6).1,(af c 3 (fE c wd a 6).2).2)
def ld(c:List UInt8)(n:Int)(x:List Int)(a:Nat):Nat->List Int×Nat
 |0=>(x,a)
 |k+1=>((ld c n x a k).1++[(af c n (ld c n x a k).2).1],(af c n (ld c n x a k).2).2)
structure vV where
 nx:List Int
 tg:List Int
 fn:List Int
 a:Nat
def AY(x:Int):Int:=if x-3 < -1 then -1 else x-3
def Tn(c:List UInt8)(nx tg fn:List Int)(t:Int)(a:Nat):vV:=
 if (af c 4 a).1=3 then ⟨nx,tg++[t],fn++[(af c 3 (af c 4 a).2).1-1],(af c 3 (af c 4 a).2).2⟩ else ⟨nx,tg++[t],fn++[t],(af c 4 a).2⟩
def To(c:List UInt8)(n:Int)(wd:Nat)(s:vV):vV:=
 Tn c (ld c n s.nx s.a wd).1 s.tg s.fn (AY (af c 6 (ld c n s.nx s.a wd).2).1) (af c 6 (ld c n s.nx s.a wd).2).2
def fC(c:List UInt8)(n:Int)(wd:Nat)(a:Nat):Nat->vV
 |0=>⟨[],[],[],a⟩
 |k+1=>To c n wd (fC c n wd a k)
def Z7(c:List UInt8)(n wd:Nat)(a:Nat):aE×Nat:=
 (⟨(nF c wd a).1,wd,(fC c n wd (nF c wd a).2 n).nx,(fC c n wd (nF c wd a).2 n).tg,(fC c n wd (nF c wd a).2 n).fn⟩,(fC c n wd (nF c wd a).2 n).a)
def nR(c:List UInt8)(a:Nat):aE×Nat:=Z7 c (2+(af c 13 a).1).toNat (2+(af c 4 (af c 13 a).2).1).toNat (af c 4 (af c 13 a).2).2
theorem A6(c:List UInt8)(wd:Int)(a:Nat):∀k,(fE c wd a k).1.length=256
 |0=>xI
 |k+1=>by rw[fE];exact qP.trans (A6 c wd a k)
theorem zmi(c:List UInt8)(wd:Int)(a:Nat):(nF c wd a).1.length=256:=by
 unfold nF;split
 ·exact qP.trans (A6 _ _ _ _)
 ·exact A6 _ _ _ _
theorem aB{p:Prop}(h:p):zp p:=h
def BA(p B:Nat)(x:Int)(D:Nat):Nat->zy->zB->Prop
 |0,u,_=>u=zx (zh ⟨p,0,za⟩)
 |1,u,_=>u=zn .i64 x
 |2,u,_=>u=zn .i64 (D:Int)
 |3,u,W=>∃g,u=zi (zh ⟨g,0,za⟩) 256 256/\dQ (B+1) W u (List.replicate 256 0)
 |4,u,W=>∃a0 n0 c0,u=zD #[.slice a0 n0 c0,zn .i64 (D:Int),zi za 0 0,zi za 0 0,zi za 0 0]/\dQ (B+1) W (.slice a0 n0 c0) (List.replicate 256 0)
 |5,u,W=>∃q,u=zx (zh ⟨q,0,za⟩)/\B<q/\W.heap[q]?=zh (zw bm 25 (0,0))
 |_,_,_=>False
theorem BA.keep{W':zB}(hk:aJ p W W')(hB:p<B):∀i u,BA p B x D i u W->BA p B x D i u W'
 |0,_,h=>h
 |1,_,h=>h
 |2,_,h=>h
 |3,_,⟨g,e,h⟩=>⟨g,e,Cg h λb hb=>hk.block b (eN h hb).2 (by have:=(eN h hb).1;omega)⟩
 |4,_,⟨a0,n0,c0,e,h⟩=>⟨a0,n0,c0,e,Cg h λb hb=>hk.block b (eN h hb).2 (by have:=(eN h hb).1;omega)⟩
 |5,_,⟨q,e,h1,h2⟩=>⟨q,e,h1,(hk.block q (az h2) (by omega)).trans h2⟩
 |_+6,_,h=>h
theorem BA.lt:∀i u,BA p B x D i u W->∀b,u.ownBlock=zh b->b<W.heap.size
 |0,_,h,b,hb=>by cases h;cases hb
 |1,_,h,b,hb=>by cases h;cases hb
 |2,_,h,b,hb=>by cases h;cases hb
 |3,_,⟨g,e,h⟩,b,hb=>(eN h hb).2
 |4,_,⟨a0,n0,c0,e,h⟩,b,hb=>by subst e;cases hb
 |5,_,⟨q,e,h1,h2⟩,b,hb=>by subst e;cases hb
 |_+6,_,h,_,_=>h.elim
theorem zof(a0:Option Addr)(n0 c0:Nat)(k:Int):prog.built 25 [(1,zn .i64 k),(0,.slice a0 n0 c0)]=zh #[.slice a0 n0 c0,zn .i64 k,zi za 0 0,zi za 0 0,zi za 0 0]:=by kernel_rfl
theorem zrm{ρ:Operand->zy}{o:Oper}{x y:Operand}(ho:o.op=.build 25 #[(1,x),(0,y)]){k:Int}{a0:Option Addr}{n0 c0:Nat}(hx:ρ x=zn .i64 k)(hy:ρ y=.slice a0 n0 c0)(w:zB):(execOp ρ o).run prog w=.ok (.value (zD #[.slice a0 n0 c0,zn .i64 k,zi za 0 0,zi za 0 0,zi za 0 0])) w:=by
 obtain⟨dst,op,type,pos,after,guard⟩:=o;simp only at ho;subst ho;have:=run_build (P:=prog) w 25 #[(1,zn .i64 k),(0,.slice a0 n0 c0)] _ (zof a0 n0 c0 k);simp[execOp,hx,hy,this,Result.andThen]
theorem zhn(w:zB)(p:Nat)(c:List UInt8)(a:Nat)(r:Int)(h:a7 w p c a r):
  Calls prog 29 #[zx (zh ⟨p,0,za⟩)] w (xA p w c (nR c a).1 (nR c a).2 r):=by
 have du:prog.follows .mixedOrders=true:=by kernel_rfl
 have dz:=h.lt;obtain⟨W0,ay⟩:∃W0,w.alloc (zw bm 25)=W0:=⟨_,rfl⟩;have aG:zF w.heap.size w W0:=by rw[<-ay];exact aC
 have x0:W0.heap[w.heap.size]?=zh (zw bm 25 (0,0)):=by rw[<-ay];exact aU _ _
 have hP:=λW a hW (n:Int) (hn:n<=65536)=>uq W p c a r hW n hn
 have Xa:=hP W0 a (h.keep λk hk=>aG.block k (by omega)) 13 (by omega);have HF:zp (nR c a=Z7 c (2+(af c 13 a).1).toNat (2+(af c 4 (af c 13 a).2).1).toNat (af c 4 (af c 13 a).2).2):=rfl;have oA:=ku h.le 13;have dT:=ku oA.1 4;obtain⟨x1,y1,pZ⟩:∃x y,af c 13 a=(x,y):=⟨_,_,rfl⟩;rw[pZ]at Xa HF oA dT;simp only at dT oA;obtain⟨x2,y2,mR⟩:∃x y,af c 4 y1=(x,y):=⟨_,_,rfl⟩;obtain⟨N,hN⟩:∃N:Nat,2+x1=(N:Int):=⟨(2+x1).toNat,by omega⟩;have h4:=λW hW=>hP W y1 hW 4 (by omega)
 simp only[mR]at HF dT h4;obtain⟨D,hD⟩:∃D:Nat,2+x2=(D:Int):=⟨(2+x2).toNat,by omega⟩;have HF:zp (nR c a=Z7 c N D y2):=by rw[hN,hD]at HF;exact HF.out
 have Da:2<=N/\N<=14:=by omega
 have Ij:2<=D/\D<=5:=by omega
 unfold bm at ay;clear oA dT
 go_enter func29,ntmps29
 go_wp2_with fail
 refine Xa.mono ?_;rintro e w1 ⟨rfl,eZ,cK⟩;have k1:=(aJ.of (p:=p) aG).trans cK;have X1:w1.heap[w.heap.size]?=zh (zw bm 25 (0,0)):=(cK.block _ (az x0) (by omega)).trans x0;have pg:=az X1;clear Xa aG cK ay x0
 go_upto_region 2 with fail
 refine zfp 6 [(0,14),(1,15),(2,16),(3,17),(4,18),(5,4)] (λl W=>aJ p w1 W/\a7 W p c (if l 1=true then y2 else y1) r)
  (BA p w.heap.size x2 D)
  du (by kernel_rfl) (by kernel_rfl) rfl ?_ ?_ ?_ ?_ ?_ ?_ ?_ ?_
 ·intro q hq;show q.2<89;simp only[tn,List.not_mem_nil,or_false]at hq;rcases hq with rfl|rfl|rfl|rfl|rfl|rfl<;>decide
 ·decide
 ·decide
 ·intro q hq;simp only[tn,List.not_mem_nil,or_false]at hq;rcases hq with rfl|rfl|rfl|rfl|rfl|rfl<;>decide
 ·exact⟨(aJ.refl _ _).drew,eZ.keep λ_ _=>rfl⟩
 ·exact λi u W=>BA.lt i u
 ·intro l a W i o hJ hi ho hl oo;obtain⟨kX,kW⟩:=hJ.inv;have Fj:=kX.size
  match i,hi,ho with
  |0,_,ho=>
   cases ho
   have e0:a.eval (.tmp 0)=zx (zh ⟨p,0,za⟩):=hJ.act.ev 0 (by decide);refine Ch (TZ rfl W) rfl ⟨⟨kX,by simpa using kW⟩,λ_ _ h=>h,14,_,by simp,rfl,e0,λb hb=>?_⟩;rw[e0]at hb;cases hb
  |1,_,ho=>
   cases ho
   have e0:a.eval (.tmp 14)=zx (zh ⟨p,0,za⟩):=hJ.val (0,14) (by simp) (oo 0 (by decide));rw[hl,ab (by decide)]at kW;refine zpQ (f:=27) (xs:=#[zx (zh ⟨p,0,za⟩),zn .i64 4]) (znV (u:=zx (zh ⟨p,0,za⟩)) (v:=zn .i64 4) rfl rfl e0 rfl W (yY _ _)) rfl ((h4 W kW).mono ?_);rintro e W' ⟨rfl,wD,bP⟩;exact⟨_,rfl,⟨kX.trans bP,by simpa using wD⟩,λj u=>BA.keep bP (by omega) j u,15,_,by simp,rfl,rfl,λb hb=>by cases hb⟩
  |2,_,ho=>
   cases ho
   have e0:a.eval (.tmp 15)=zn .i64 x2:=hJ.val (1,15) (by simp) (oo 1 (by decide));have BZ:IntKind.i64.wrap (2+x2)=(D:Int):=by rw[hD];exact ztT (by omega) (by omega)
   exact Ch (zrk rfl rfl e0 BZ W) rfl ⟨⟨kX,by simpa using kW⟩,λ_ _ h=>h,16,_,by simp,rfl,rfl,λb hb=>by cases hb⟩
  |3,_,ho=>
   cases ho
   refine PQ (n:=256) rfl (by omega) rfl rfl (w.heap.size+1) (by omega) rfl λW' h2 h3=>?_
   have bP:aJ p W W':=(aJ.refl _ _).grown h3 (λb hb=>by cases hb);refine⟨⟨kX.trans bP,by simpa using kW.grown h3 (λb hb=>by cases hb)⟩,λj u=>BA.keep bP (by omega) j u,17,_,by simp,rfl,⟨_,rfl,h2⟩,λb hb=>?_⟩;cases hb;exact ax _
  |4,_,ho=>
   cases ho
   have e0:a.eval (.tmp 16)=zn .i64 (D:Int):=hJ.val (2,16) (by simp) (oo 2 (by decide));obtain⟨g,e1,ho⟩:∃g,a.eval (.tmp 17)=zi (zh ⟨g,0,za⟩) 256 256/\dQ (w.heap.size+1) W (a.eval (.tmp 17)) (List.replicate 256 0):=hJ.val (3,17) (by simp) (oo 3 (by decide));rw[e1]at ho;exact Ch (zrm rfl e0 e1 W) rfl ⟨⟨kX,by simpa using kW⟩,λ_ _ h=>h,18,_,by simp,rfl,⟨_,_,_,rfl,ho⟩,λb hb=>by cases hb⟩
  |5,_,ho=>
   cases ho
   have iQ:zF W.heap.size W (W.alloc (zw bm 25)):=aC;exact Ch (ziK rfl W) rfl ⟨⟨kX.trans (.of iQ),by simpa using kW.keep λk hk=>iQ.block k (by have:=kW.lt;omega)⟩,λj u=>BA.keep (.of iQ) (by omega) j u,4,_,by simp,rfl,⟨_,rfl,by omega,aU _ _⟩,λb hb=>by cases hb⟩
 ·intro l aa W o hJ ho cj;cases ho;obtain⟨kX,kW⟩:=hJ.inv;have e0:aa.eval (.tmp 14)=zx (zh ⟨p,0,za⟩):=hJ.val (0,14) (by simp) (cj 0 (by omega));have e1:aa.eval (.tmp 15)=zn .i64 x2:=hJ.val (1,15) (by simp) (cj 1 (by omega));have e2:aa.eval (.tmp 16)=zn .i64 (D:Int):=hJ.val (2,16) (by simp) (cj 2 (by omega));obtain⟨a0,n0,c0,e4,Z4⟩:∃a0 n0 c0,aa.eval (.tmp 18)=zD #[.slice a0 n0 c0,zn .i64 (D:Int),zi za 0 0,zi za 0 0,zi za 0 0]/\dQ (w.heap.size+1) W (.slice a0 n0 c0) (List.replicate 256 0):=hJ.val (4,18) (by simp) (cj 4 (by omega));obtain⟨q,e5,hq,yK⟩:∃q,aa.eval (.tmp 4)=zx (zh ⟨q,0,za⟩)/\w.heap.size<q/\W.heap[q]?=zh (zw bm 25 (0,0)):=hJ.val (5,4) (by simp) (cj 5 (by omega));obtain⟨u3,e3⟩:∃u,aa.eval (.tmp 17)=u:=⟨_,rfl⟩;refine zkV (ziL rfl e5 e4 yK) rfl ?_;have ha:=ziR [(14,zx (zh ⟨p,0,za⟩)),(15,zn .i64 x2),(16,zn .i64 (D:Int)),(17,u3),(18,zD #[.slice a0 n0 c0,zn .i64 (D:Int),zi za 0 0,zi za 0 0,zi za 0 0]),(4,zx (zh ⟨q,0,za⟩))] _ aa hJ.act (by
   intro x hx;simp only[tn,List.not_mem_nil,or_false]at hx;rcases hx with rfl|rfl|rfl|rfl|rfl|rfl
   ·exact⟨(by decide:14<89),e0⟩
   ·exact⟨(by decide:15<89),e1⟩
   ·exact⟨(by decide:16<89),e2⟩
   ·exact⟨(by decide:17<89),e3⟩
   ·exact⟨(by decide:18<89),e4⟩
   ·exact⟨(by decide:4<89),e5⟩)
  rw[ha];have yw:fJ p w w.heap.size w.heap.size q (dJ W q (.slice a0 n0 c0) (zn .i64 (D:Int)) (zi za 0 0) (zi za 0 0) (zi za 0 0)) D (upd (λ_=>zi za 0 0) 0 (.slice a0 n0 c0)) (L4 (fE c D y2 0).1 [] [] []):=by
   have ff:=zjv (wd:=D) (v:=upd (λ_=>zi za 0 0) 0 (.slice a0 n0 c0)) (show W.heap[q]?=zh (zw #[_,_,_,_,_] _ _) from yK);refine⟨⟨λi hi=>?_,λi j hi hj hne b hb=>?_⟩,ff,(A4 (by omega)).trans ((kX.block _ pg (by omega)).trans X1),P4 (k1.trans kX) (by omega) _ _ _ _ _,by omega⟩
   ·match i,hi with
    |0,_=>
     refine Cg Z4 λb hb=>A4 λe=>?_
     obtain⟨a9,hc⟩:=jx Z4 hb;rw[e,yK]at hc;exact absurd (er hc) (by decide)
    |1,_=>exact⟨rfl,.inl ⟨rfl,rfl⟩⟩
    |2,_=>exact⟨rfl,.inl ⟨rfl,rfl⟩⟩
    |3,_=>exact⟨rfl,.inl ⟨rfl,rfl⟩⟩
   ·intro hc;have hz:∀i,i≠0->(upd (λ_=>Value.slice za 0 0) 0 (.slice a0 n0 c0) i).ownBlock=za:=λi hi=>by rw[bW _ _ hi];rfl
    by_cases e:i=0
    ·rw[hz j (by omega)]at hc;cases hc
    ·rw[hz i e]at hb;cases hb
  have Im:a7 (dJ W q (.slice a0 n0 c0) (zn .i64 (D:Int)) (zi za 0 0) (zi za 0 0) (zi za 0 0)) p c (fE c D y2 0).2 r:=by
   rw[cj 1 (by omega),ae rfl]at kW;exact kW.keep λk hk=>A4 (by omega)
  generalize dJ W q (.slice a0 n0 c0) (zn .i64 (D:Int)) (zi za 0 0) (zi za 0 0) (zi za 0 0)=W3 at yw Im ⊢;clear hJ cj kX kW e0 e1 e2 e3 e4 e5 Z4 yK ha;simp only[List.foldl_cons,List.foldl_nil,Act.put,zv,zz,zt];clear h4 X1 pg k1 eZ;have Bs:=aB yw;have EF:=aB Im;have FE:=yw.low;have S3:=yw.base;clear yw Im;go_wp2
  go_loopw [5] (λi wr=>∃k:Nat,k<=6/\i=zn .i64 k/\∃v,fJ p w w.heap.size w.heap.size q wr D v (L4 (fE c D y2 k).1 [] [] [])/\a7 wr p c (fE c D y2 k).2 r) (λi _=>6-(intOf i).toNat)
  case atStart=>exact⟨0,by omega,rfl,_,Bs.out,EF.out⟩
  case round=>
   clear Bs EF FE;obtain⟨k,ru,rfl,v,hS,hC⟩:=hrel;have FE:=hS.low
   by_cases hlt:k<6
   ·have Dt:(k:Int)<6:=by omega
    obtain⟨b0,WM,DB,bY,zwP,sB,pn⟩:=hS.row (i:=0) (by omega) (by show 0<(fE c D y2 k).1.length;rw[A6];omega);rw[show L4 (fE c D y2 k).1 [] [] [] 0=(fE c D y2 k).1 from rfl,A6]at DB sB;have HS:=aB hS;have HC:=aB hC;have x0:∀s:fD p wr,s.W.cell? ⟨q,0,za⟩=zh (zi (zh ⟨b0,0,za⟩) 256 WM):=λs=>by rw[<-DB];exact(cE (HS.out.kp s.h).box).1
    have x1:∀s:fD p wr,s.W.cell? ⟨q,1,za⟩=zh (zn .i64 (D:Int)):=λs=>(cE (HS.out.kp s.h).box).2.1
    have i0:(0:Int)<=97+(k:Int):=by omega
    have i1:97+(k:Int)<256:=by omega
    have Zb:=hP wr.drew _ (hC.keep λ_ _=>rfl) D (by omega);obtain⟨y,a',hy⟩:∃y a',af c D (fE c D y2 k).2=(y,a'):=⟨_,_,rfl⟩;have HN:zp (fE c D y2 (k+1)=((fE c D y2 k).1.set (97+k) y,a')):=by show _=_;rw[fE,hy]
    rw[hy]at Zb;have fo:=aB Zb;have Hc0:=aB (sB (97+k) (by omega));have Q8:=aB (pn (97+k));have HV:=aB DB;clear hS hC Zb hy sB pn DB
    go_upto_region 6 with fail
    refine ul [0,1,2,3,4,5,6] [7,8,9] 8 (λw'=>∃s:fD p wr,w'=s.W) (λw'=>w'=wr.drew) du ⟨⟨wr.drew,(aJ.refl _ _).drew⟩,rfl⟩ rfl (by kernel_rfl) ?_;intro os aX;simp only[jL,jM,jO,jN]at aX;subst aX
    change wpQuiet _ _ _ _ [_,_,_,_,_,_,_] _
    repeat (go_big_quiet_step (fail))
    refine wpQuiet_nil ?_;rintro w' rfl r' di;simp only[jL,jM,jO,jN,qS]at di;subst di;clear x0 x1;refine lV rfl (λK5 bh=>?_);refine xo 27 #[.tmp 27,.tmp 29] #[32,3] (by rfl) #[zx (zh ⟨p,0,za⟩),zn .i64 (D:Int)] (by simp[Act.eval]) (λv w'=>v=zn .i64 y/\a7 w' p c a' r/\aJ p wr.drew w') (yY _ _) (fo.out.mono (by
     rintro e w1 ⟨rfl,h1⟩;exact⟨_,rfl,rfl,h1⟩)) ?_
    rintro v8 W8 ⟨rfl,mN,k6⟩;have fB:aJ p wr W8:=(aJ.refl _ _).drew.trans k6;refine bh _ _ (λ_=>⟨⟨_,fB⟩,rfl⟩) ?_;clear bh K5;have dg:=aB (HS.out.kp fB);obtain⟨gQ,kY⟩:=dg.out.at (i:=0) (by omega) HV.out;rw[show L4 (fE c D y2 k).1 [] [] [] 0=(fE c D y2 k).1 from rfl,A6]at gQ;have u8:=gQ (97+k) (by omega);have f8:=kY (97+k);clear gQ kY Hc0 Q8 fo;refine um (by simp) (λ_ _ h=>h) ?_
    change wpList _ _ _ [_,_] _ _
    go_wp2;rw[oJ];go_wp2
    go_roundw
    case rel=>
     refine⟨k+1,by omega,by go_num,v,?_,?_⟩
     ·rw[HN.out];exact(dg.out.put (i:=0) (by omega) HV.out (A6 _ _ _ _) (97+k) y).to rfl rfl rfl rfl
     ·rw[HN.out];exact mN.put (by omega) _ _
    case measure=>simp[intOf];omega
   ·obtain rfl:k=6:=by omega
    have HS:=aB hS;have HC:=aB hC;clear hS hC;have sE:=ku HC.out.le 3;have YY:=hP wr _ HC.out 3 (by omega);have HX:zp (nF c D y2=if (af c 3 (fE c D y2 6).2).1=2 then ((fE c D y2 6).1.set (af c 256 (af c 3 (fE c D y2 6).2).2).1.toNat (af c D (af c 256 (af c 3 (fE c D y2 6).2).2).2).1,(af c D (af c 256 (af c 3 (fE c D y2 6).2).2).2).2) else ((fE c D y2 6).1,(af c 3 (fE c D y2 6).2).2)):=rfl;obtain⟨x3,y3,vk⟩:∃x y,af c 3 (fE c D y2 6).2=(x,y):=⟨_,_,rfl⟩;rw[vk]at sE YY HX;have lF:=aB sE.1;have HP:=aB hP;clear sE hP
    go_upto_region 7 with fail
    go_cut [34] from 32 to 34 (λv wx=>v=.bool (decide (x3=2))/\aJ p wr wx/\a7 wx p c y3 r)
    case first=>
     go_wp2_with (go_at_call 27;refine YY.mono ?_;rintro e w3 ⟨rfl,eM,cP⟩)
     go_meet
     exact⟨by first|rfl|simp,cP,eM⟩
    obtain⟨rfl,cP,eM⟩:=hcut
    rename_i K hK
    refine hK _ _ ?_;clear hK K YY;have tF:=aB (HS.out.kp cP);have Bh:=aB eM;obtain⟨V,hV⟩:∃V,V=wc:=⟨_,rfl⟩;subst hV
    go_cut [6] from 34 to 44 (λ_ wx=>∃v,fJ p w w.heap.size w.heap.size q wx D v (L4 (nF c D y2).1 [] [] [])/\a7 wx p c (nF c D y2).2 r)
    case first=>
     clear cP eM HS HC
     by_cases wv:x3=2
     ·subst wv;have od:=aB (HX.out.trans (ae rfl));have AB:=ku lF.out 256;have OT:=HP.out V _ Bh.out 256 (by omega);obtain⟨x4,y4,FP⟩:∃x y,af c 256 y3=(x,y):=⟨_,_,rfl⟩;simp only[FP]at AB OT od;obtain⟨m4,rfl⟩:∃m:Nat,x4=(m:Int):=⟨x4.toNat,by have:=AB.2.1;omega⟩;have Lq:(m4:Int)<256:=by have:=AB.2.2;omega
      clear HX AB
      go_upto_region 9 with (go_at_call 27;refine OT.mono ?_;rintro e wr ⟨rfl,pk,mf⟩;clear OT)
      have HD4:=aB pk;have kT:=aB (tF.out.kp mf);obtain⟨b0,WM,DB,bY,zwP,-,-⟩:=kT.out.row (i:=0) (by omega) (by show 0<(fE c D y2 6).1.length;rw[A6];omega);rw[show L4 (fE c D y2 6).1 [] [] [] 0=(fE c D y2 6).1 from rfl,A6]at DB;have x0:∀s:fD p wr,s.W.cell? ⟨q,0,za⟩=zh (zi (zh ⟨b0,0,za⟩) 256 WM):=λs=>by rw[<-DB];exact(cE (kT.out.kp s.h).box).1
      have x1:∀s:fD p wr,s.W.cell? ⟨q,1,za⟩=zh (zn .i64 (D:Int)):=λs=>(cE (kT.out.kp s.h).box).2.1
      have i0:(0:Int)<=(m4:Int):=by omega
      have fo:=aB (HP.out wr.drew _ (HD4.out.keep λ_ _=>rfl) D (by omega));obtain⟨y,a',hy⟩:∃y a',af c D y4=(y,a'):=⟨_,_,rfl⟩;have HN:zp (nF c D y2=((fE c D y2 6).1.set m4 y,a')):=by rw[hy]at od;exact od.out
      rw[hy]at fo;have HV:=aB DB;clear pk mf DB hy FP vk tF Bh od
      go_upto_region 9 with fail
      refine ul [0,1,2,3,4,5] [6,7,8] 7 (λw'=>∃s:fD p wr,w'=s.W) (λw'=>w'=World.drew wr) du ⟨⟨World.drew wr,(aJ.refl _ _).drew⟩,rfl⟩ rfl (by kernel_rfl) ?_;intro os aX;simp only[jL,jM,jO,jN]at aX;subst aX
      change wpQuiet _ _ _ _ [_,_,_,_,_,_] _
      repeat (go_big_quiet_step (fail))
      refine wpQuiet_nil ?_;rintro w' rfl r' di;simp only[jL,jM,jO,jN,qS]at di;subst di;clear x0 x1;refine lV rfl (λK5 bh=>?_);refine xo 27 #[.tmp 40,.tmp 42] #[32,3] (by rfl) #[zx (zh ⟨p,0,za⟩),zn .i64 (D:Int)] (by simp[Act.eval]) (λv w'=>v=zn .i64 y/\a7 w' p c a' r/\aJ p (World.drew wr) w') (yY _ _) (fo.out.mono (by
       rintro e w1 ⟨rfl,h1⟩;exact⟨_,rfl,rfl,h1⟩)) ?_
      rintro v8 W8 ⟨rfl,mN,k6⟩;have fB:aJ p wr W8:=(aJ.refl _ _).drew.trans k6;refine bh _ _ (λ_=>⟨⟨_,fB⟩,rfl⟩) ?_;clear bh K5 fo;have dg:=aB (kT.out.kp fB);obtain⟨gQ,kY⟩:=dg.out.at (i:=0) (by omega) HV.out;rw[show L4 (fE c D y2 6).1 [] [] [] 0=(fE c D y2 6).1 from rfl,A6]at gQ;have u8:=gQ m4 (by omega);have f8:=kY m4;clear gQ kY;refine um (by simp) (λ_ _ h=>h) ?_
      change wpList _ _ _ [_,_] _ _
      go_wp2;rw[oJ];go_wp2
      go_meet
      exact⟨v,by rw[HN.out];exact(dg.out.put (i:=0) (by omega) HV.out (A6 _ _ _ _) m4 y).to rfl rfl rfl rfl,by rw[HN.out];exact mN.put (by omega) _ _⟩
     ·have od:=aB (HX.out.trans (ab wv));have hn:decide (x3=2)=false:=by simp[wv]
      rw[hn];go_wp2
      go_meet
      exact⟨v,by rw[od.out];exact tF.out,by rw[od.out];exact Bh.out⟩
    case rest=>
     clear HS HC cP eM tF Bh HX vk lF V;obtain⟨v,hS,hC⟩:=hcut;have Bi:zp (nR c a=(⟨(nF c D y2).1,D,(fC c N D (nF c D y2).2 N).nx,(fC c N D (nF c D y2).2 N).tg,(fC c N D (nF c D y2).2 N).fn⟩,(fC c N D (nF c D y2).2 N).a)):=HF.out;have zG:zp ((nF c D y2).1.length=256):=zmi c D y2;generalize nF c D y2=X at hS hC Bi zG;obtain⟨cl,ac⟩:=X;have Bs:=aB hS;have EF:=aB hC;clear hS hC;go_wp2
     go_loopw [7] (λi wr=>∃k:Nat,k<=N/\i=zn .i64 k/\∃v,fJ p w w.heap.size w.heap.size q wr D v (L4 cl (fC c N D ac k).nx (fC c N D ac k).tg (fC c N D ac k).fn)/\a7 wr p c (fC c N D ac k).a r/\(fC c N D ac k).nx.length<=5*k/\(fC c N D ac k).tg.length<=k/\(fC c N D ac k).fn.length<=k) (λi _=>N-(intOf i).toNat)
     case atStart=>exact⟨0,by omega,rfl,_,Bs.out,EF.out,by simp[fC],by simp[fC],by simp[fC]⟩
     case round=>
      clear Bs EF v;obtain⟨k,II,rfl,v,hS,hC,oA,dT,sE⟩:=hrel;have FE:=hS.low;have HS:=aB hS;have HC:=aB hC;have jQ:=aB oA;have jD:=aB dT;have lF:=aB sE;clear hS hC oA dT sE
      by_cases hlt:k<N
      ·have Dt:(k:Int)<(N:Int):=by omega
       generalize hst:fC c N D ac k=st at *;obtain⟨nx,tg,fn,ak⟩:=st;have HN:zp (fC c N D ac (k+1)=To c N D ⟨nx,tg,fn,ak⟩):=by show _=_;rw[fC,hst]
       clear hst;replace jQ:zp (nx.length<=5*k):=jQ.out;replace jD:zp (tg.length<=k):=jD.out;replace lF:zp (fn.length<=k):=lF.out;replace HS:zp (fJ p w w.heap.size w.heap.size q wr D v (L4 cl nx tg fn)):=HS.out;replace HC:zp (a7 wr p c ak r):=HC.out;go_wp2
       go_loopw [8] (λi wr=>∃j:Nat,j<=D/\i=zn .i64 j/\∃v,fJ p w w.heap.size w.heap.size q wr D v (L4 cl (ld c N nx ak j).1 tg fn)/\a7 wr p c (ld c N nx ak j).2 r/\(ld c N nx ak j).1.length=nx.length+j) (λi _=>D-(intOf i).toNat)
       case atStart=>exact⟨0,by omega,rfl,v,HS.out,HC.out,rfl⟩
       case round=>
        clear HS HC v FE;obtain⟨j,hjD,rfl,v,hS,hC,lM⟩:=hrel;have FE:=hS.low;have HS:=aB hS;have HC:=aB hC;have x1:wr.cell? ⟨q,1,za⟩=zh (zn .i64 (D:Int)):=(cE hS.box).2.1;clear hS hC
        by_cases OL:j<D
        ·have zAF:(j:Int)<(D:Int):=by omega
         have fo:=aB (HP.out wr.drew _ (HC.out.keep λ_ _=>rfl) N (by omega));have Bn:zp (ld c N nx ak (j+1)=((ld c N nx ak j).1++[(af c N (ld c N nx ak j).2).1],(af c N (ld c N nx ak j).2).2)):=rfl;generalize ld c N nx ak j=st at *;obtain⟨xs,aj⟩:=st;obtain⟨y,a',hy⟩:∃y a',af c N aj=(y,a'):=⟨_,_,rfl⟩;simp only[hy]at fo Bn;obtain⟨m,hm⟩:∃m,xs.length=m:=⟨_,rfl⟩;have HM:=aB hm;have fY:m<=100:=by have:=jQ.out;have h2:xs.length=nx.length+j:=lM;omega
         have rX:zp (m=nx.length+j):=by show _=_;rw[<-hm];exact lM
         obtain⟨⟨a1,c1⟩,ev⟩:=cJ (HS.out.aq.own 1 (by omega));rw[show L4 cl xs tg fn 1=xs from rfl,hm]at ev;have HV:zp (v 1=.slice a1 m c1):=ev;have x2:∀s:fD p wr,s.W.cell? ⟨q,2,za⟩=zh (.slice a1 m c1):=λs=>by rw[<-HV.out];exact(cE (HS.out.kp s.h).box).2.2.1
         clear hm lM ev hy
         go_upto_region 16 with fail
         refine ul [0,1,2,3] [4,5,6,7,8] 6 (λw'=>∃s:fD p wr,w'=s.W) (λw'=>w'=World.drew wr) du ⟨⟨World.drew wr,(aJ.refl _ _).drew⟩,rfl⟩ rfl (by kernel_rfl) ?_;intro os aX;simp only[jL,jM,jO,jN]at aX;subst aX
         change wpQuiet _ _ _ _ [_,_,_,_] _
         repeat (go_big_quiet_step (fail))
         refine wpQuiet_nil ?_;rintro w' rfl r' di;simp only[jL,jM,jO,jN,qS]at di;subst di;clear x2 x1;refine lV rfl (λK5 bh=>?_);refine xo 27 #[.tmp 58,.tmp 59] #[32,3] (by rfl) #[zx (zh ⟨p,0,za⟩),zn .i64 (N:Int)] (by simp[Act.eval]) (λv w'=>v=zn .i64 y/\a7 w' p c a' r/\aJ p (World.drew wr) w') (yY _ _) (fo.out.mono (by
          rintro e w1 ⟨rfl,h1⟩;exact⟨_,rfl,rfl,h1⟩)) ?_
         rintro v8 W8 ⟨rfl,mN,k6⟩;have fB:aJ p wr W8:=(aJ.refl _ _).drew.trans k6;refine bh _ _ (λ_=>⟨⟨_,fB⟩,rfl⟩) ?_;clear bh K5 fo;have dg:=aB (HS.out.kp fB);have hsz:=az dg.out.dv;simp only[Act.put,zv,zz,zt];refine lV rfl (λK5 bh=>?_)
         first|go_big_move|go_big_op
         refine bh _ _ (λ_=>⟨⟨_,fB.alloc _⟩,rfl⟩) ?_;clear bh K5;refine um (by simp) (λ_ _ h=>h) ?_
         change wpList _ _ _ [_,_,_] _ _
         go_wp2_with (at_builtin;refine jw dg.out.aq _ rfl rfl (.tmp 57) (.tmp 61) rfl 1 (by omega) xs rfl m HM.out (by exact HV.out.symm) y rfl (by omega) hsz ?_;intro g2 d2 V2 hF2 dH;obtain⟨eG,J2⟩:=dg.out.field (i:=1) (by omega) 2 rfl hF2 dH;have Hdc:=aB (dg.out.yn mN (i:=1) (by omega) dH 2 (zi (zh ⟨g2,0,za⟩) (m+1) d2));have Tv:=(cE eG).2.2.1;rw[HV.out]at Tv;have q9:=aR _ _ 2 _ _ eG;have oP:=aB J2;clear hF2 dH eG J2)
         rw[oJ];go_wp2
         go_roundw
         case rel=>exact⟨j+1,by omega,by go_num,_,by rw[Bn.out];exact oP.out.to rfl rfl rfl rfl,by rw[Bn.out];exact Hdc.out,by rw[Bn.out];have:=HM.out;have:=rX.out;simp;omega⟩
         case measure=>simp[intOf];omega
        ·have zAx:j=D:=by omega
         subst zAx;have IJ:=ku HC.out.le 6;have IZ:=HP.out wr _ HC.out 6 (by omega);have zJ:zp (fC c N j ac (k+1)=Tn c (ld c N nx ak j).1 tg fn (AY (af c 6 (ld c N nx ak j).2).1) (af c 6 (ld c N nx ak j).2).2):=HN.out;generalize ld c N nx ak j=st at *;obtain⟨xs,aj⟩:=st;obtain⟨x6,y6,iJ⟩:∃x y,af c 6 aj=(x,y):=⟨_,_,rfl⟩;simp only[iJ]at IJ IZ zJ;have zDd:0<=x6:=IJ.2.1;have zDe:x6<6:=by have:=IJ.2.2;omega
         have HX:zp (xs.length=nx.length+j):=lM;clear lM iJ IJ HN;obtain⟨⟨a2,c2⟩,jo⟩:=cJ (HS.out.aq.own 2 (by omega));obtain⟨m2,fY⟩:∃m,tg.length=m:=⟨_,rfl⟩;rw[show L4 cl xs tg fn 2=tg from rfl,fY]at jo;obtain⟨⟨a3,c3⟩,ig⟩:=cJ (HS.out.aq.own 3 (by omega));obtain⟨m3,lN⟩:∃m,fn.length=m:=⟨_,rfl⟩;rw[show L4 cl xs tg fn 3=fn from rfl,lN]at ig;have qm:zp (v 2=.slice a2 m2 c2):=jo;have xP:zp (v 3=.slice a3 m3 c3):=ig;have rX:=aB fY;have QM:=aB lN;have zAI:m2<=20:=by have:=jD.out;omega
         have zAJ:m3<=20:=by have:=lF.out;omega
         clear jo ig fY lN;obtain⟨T,hT,XT⟩:∃T,zp (AY x6=T)/\((x6-3 < -1/\T=-1)\/(¬x6-3 < -1/\T=x6-3)):=by
          by_cases h:x6-3 < -1
          ·exact⟨-1,by show _=_;unfold AY;rw[ae h],.inl ⟨h,rfl⟩⟩
          ·exact⟨x6-3,by show _=_;unfold AY;rw[ab h],.inr ⟨h,rfl⟩⟩
         rcases XT with ⟨XT,rfl⟩|⟨XT,rfl⟩
         all_goals
          go_wp2_with fail
          refine IZ.mono ?_;rintro e w6 ⟨rfl,Fq,ru⟩;have lG:=aB (HS.out.kp ru);have hsz:=az lG.out.dv;have e3:w6.cell? ⟨q,3,za⟩=zh (.slice a2 m2 c2):=by rw[<-qm.out];exact(cE lG.out.box).2.2.2.1
          clear IZ HS HC x1
          go_wp2_with (at_builtin;refine jw lG.out.aq _ rfl rfl (.tmp 70) (.tmp 72) rfl 2 (by omega) tg rfl m2 rX.out (by exact qm.out.symm) _ rfl (by omega) hsz ?_;intro g2 d2 V2 hF2 dH;obtain⟨eG,J2⟩:=lG.out.field (i:=2) (by omega) 3 rfl hF2 dH;have vP:=aB (lG.out.yn Fq (i:=2) (by omega) dH 3 (zi (zh ⟨g2,0,za⟩) (m2+1) d2));have yW:=(cE eG).2.2.2.1;rw[qm.out]at yW;have q9:=aR _ _ 3 _ _ eG;have oP:=aB J2;clear hF2 dH eG J2)
          have SN:=ku vP.out.le 4;have YZ:=HP.out _ _ vP.out 4 (by omega);obtain⟨x7,y7,AL⟩:∃x y,af c 4 y6=(x,y):=⟨_,_,rfl⟩;simp only[AL]at SN YZ;have zK:zp (fC c N j ac (k+1)=if x7=3 then ⟨xs,tg++[AY x6],fn++[(af c 3 y7).1-1],(af c 3 y7).2⟩ else ⟨xs,tg++[AY x6],fn++[AY x6],y7⟩):=by
           have:=zJ.out;unfold Tn at this;rw[AL]at this;exact this
          have lH:=aB (oP.out.to (a:=cl) (b:=xs) (c:=tg++[_]) (d:=fn) rfl rfl rfl rfl);clear AL zJ oP vP lG Fq ru yW q9;refine YZ.mono ?_;rintro e w7 ⟨rfl,Ft,vd⟩;replace lH:=aB (lH.out.kp vd);have hsz:=az lH.out.dv;have e4:w7.cell? ⟨q,4,za⟩=zh (.slice a3 m3 c3):=by rw[<-xP.out];exact(cE lH.out.box).2.2.2.2
          have zO:zp (upd v 2 (zi (zh ⟨g2,0,za⟩) (m2+1) d2) 3=.slice a3 m3 c3):=xP.out;have VH:=aB Ft;clear YZ vd Ft
          by_cases Xg:x7=3
          ·subst Xg;have uH:=aB (zK.out.trans (ae rfl));have SP:=ku SN.1 3;have Dx:=HP.out _ _ VH.out 3 (by omega);obtain⟨x8,y8,wL⟩:∃x y,af c 3 y7=(x,y):=⟨_,_,rfl⟩;simp only[wL]at SP Dx uH;have zDf:0<=x8:=SP.2.1;have zDg:x8<3:=by have:=SP.2.2;omega
           clear wL SP SN zK
           go_wp2_with fail
           refine Dx.mono ?_;rintro e w8 ⟨rfl,mN,k6⟩;have dg:=aB (lH.out.kp k6);have hsz:=az dg.out.dv;have e5:w8.cell? ⟨q,4,za⟩=zh (.slice a3 m3 c3):=by rw[<-zO.out];exact(cE dg.out.box).2.2.2.2
           clear Dx lH VH e4
           go_wp2_with (at_builtin;refine jw dg.out.aq _ rfl rfl (.tmp 83) (.tmp 85) rfl 3 (by omega) fn rfl m3 QM.out (by exact zO.out.symm) _ rfl (by omega) hsz ?_;intro g5 d5 V5 hF2 dF;obtain⟨eG,J2⟩:=dg.out.field (i:=3) (by omega) 4 rfl hF2 dF;have G8:=aB (dg.out.yn mN (i:=3) (by omega) dF 4 (zi (zh ⟨g5,0,za⟩) (m3+1) d5));have Jm:=(cE eG).2.2.2.2;rw[zO.out]at Jm;have Ic:=aR _ _ 4 _ _ eG;have zH:=aB J2;clear hF2 dF eG J2)
           go_roundw
           case rel=>exact⟨k+1,by omega,by go_num,_,by rw[uH.out,hT.out];exact zH.out.to rfl rfl rfl rfl,by rw[uH.out];exact G8.out,by rw[uH.out];have:=HX.out;have:=jQ.out;show xs.length<=_;omega,by rw[uH.out];have:=jD.out;simp;omega,by rw[uH.out];have:=lF.out;simp;omega⟩
           case measure=>simp[intOf];omega
          ·have uH:=aB (zK.out.trans (ab Xg));have zBN:(x7==3)=false:=by simp[Xg]
           clear zK SN
           go_wp2_with (at_builtin;refine jw lH.out.aq _ rfl rfl (.tmp 83) (.tmp 85) rfl 3 (by omega) fn rfl m3 QM.out (by exact zO.out.symm) _ rfl (by omega) hsz ?_;intro g5 d5 V5 hF2 dF;obtain⟨eG,J2⟩:=lH.out.field (i:=3) (by omega) 4 rfl hF2 dF;have G8:=aB (lH.out.yn VH.out (i:=3) (by omega) dF 4 (zi (zh ⟨g5,0,za⟩) (m3+1) d5));have Jm:=(cE eG).2.2.2.2;rw[zO.out]at Jm;have Ic:=aR _ _ 4 _ _ eG;have zH:=aB J2;clear hF2 dF eG J2)
           go_roundw
           case rel=>exact⟨k+1,by omega,by go_num,_,by rw[uH.out,hT.out];exact zH.out.to rfl rfl rfl rfl,by rw[uH.out];exact G8.out,by rw[uH.out];have:=HX.out;have:=jQ.out;show xs.length<=_;omega,by rw[uH.out];have:=jD.out;simp;omega,by rw[uH.out];have:=lF.out;simp;omega⟩
           case measure=>simp[intOf];omega
      ·have II:k=N:=by omega
       subst II;obtain⟨⟨a0,c0⟩,mK⟩:=cJ (HS.out.aq.own 0 (by omega));obtain⟨⟨a1,c1⟩,pK⟩:=cJ (HS.out.aq.own 1 (by omega));obtain⟨⟨a2,c2⟩,jo⟩:=cJ (HS.out.aq.own 2 (by omega));obtain⟨⟨a3,c3⟩,ig⟩:=cJ (HS.out.aq.own 3 (by omega));have HE:=aB (HS.out.done HC.out (by
        intro i hi
        match i,hi with
        |0,_=>show cl.length<=_;have h0:cl.length=256:=zG.out;omega
        |1,_=>show (fC c k D ac k).nx.length<=_;have:=jQ.out;omega
        |2,_=>show (fC c k D ac k).tg.length<=_;have:=jD.out;omega
        |3,_=>show (fC c k D ac k).fn.length<=_;have:=lF.out;omega))
       obtain⟨b0,b1,b2,b3,b4⟩:=cE HS.out.box;have io:=HS.out.dv;have r0:=aR _ _ 0 _ _ io;have r1:=aR _ _ 1 _ _ io;have r2:=aR _ _ 2 _ _ io;have r3:=aR _ _ 3 _ _ io;have r4:=aR _ _ 4 _ _ io;unfold bm at io;obtain⟨z0,z1,z2,z3,z4⟩:=bL io;simp only at mK pK jo ig;rw[mK,pK,jo,ig]at HE;rw[mK]at b0;rw[pK]at b2;rw[jo]at b3;rw[ig]at b4;clear io mK pK jo ig
       skip
       go_wp2;refine bw (v:=_) (by simp[results,results29,go_sem,z0,z1,z2,z3,z4];rfl) rfl ?_;rw[Bi.out];exact⟨_,_,_,_,rfl,HE.out⟩
end
def qv(d:aE)(k:Nat):List Int:=(List.range k).map λch=>d.aD.getD ch 0*2+((ch%2:Nat):Int)
theorem Ub(d:aE)(k:Nat):(qv d k).length=k:=by simp[qv]
theorem zor(d:aE)(k:Nat):qv d (k+1)=qv d k++[d.aD.getD k 0*2+((k%2:Nat):Int)]:=by simp[qv,List.range_succ]
def mJ(c:List UInt8)(cp:Int)(d:aE)(s:Nat)(x:List Int)(a:Nat):Nat->List Int×Nat
 |0=>(x,a)
 |j+1=>((mJ c cp d s x a j).1++[(bU d s j:Int)+(af c cp (mJ c cp d s x a j).2).1*(d.tag.length:Int)]++[(bU d s j:Int)+(af c cp (af c cp (mJ c cp d s x a j).2).2).1*(d.tag.length:Int)],(af c cp (af c cp (mJ c cp d s x a j).2).2).2)
theorem zlt(c:List UInt8)(cp:Int)(d:aE)(s:Nat)(x:List Int)(a:Nat):∀j,(mJ c cp d s x a j).1.length=x.length+2*j
 |0=>rfl
 |j+1=>by
  have:=zlt c cp d s x a j;rw[mJ];simp only[a6,iG,n4];omega
def Rz(c:List UInt8)(cp:Int)(d:aE)(st:vV)(s:Nat):vV:=⟨(mJ c cp d s st.nx st.a (aW d)).1,st.tg++[d.tag.getD s 0],st.fn++[d.fin.getD s 0],(mJ c cp d s st.nx st.a (aW d)).2⟩
def kV(c:List UInt8)(cp:Int)(d:aE)(st:vV):Nat->vV
 |0=>st
 |s+1=>Rz c cp d (kV c cp d st s) s
def fx(c:List UInt8)(cp:Int)(d:aE)(a:Nat):Nat->vV
 |0=>⟨[],[],[],a⟩
 |k+1=>kV c cp d (fx c cp d a k) d.tag.length
theorem zlu(c:List UInt8)(cp:Int)(d:aE)(st:vV):∀s,(kV c cp d st s).tg.length=st.tg.length+s/\(kV c cp d st s).fn.length=st.fn.length+s/\(kV c cp d st s).nx.length=st.nx.length+s*(2*aW d)
 |0=>by simp[kV]
 |s+1=>by
  have:=zlu c cp d st s;rw[kV,Rz];have h:=zlt c cp d s (kV c cp d st s).nx (kV c cp d st s).a (aW d);simp only[a6,iG,n4,zu,Nat.one_mul];omega
theorem Uu(c:List UInt8)(cp:Int)(d:aE)(a:Nat):∀k,(fx c cp d a k).tg.length=k*d.tag.length/\(fx c cp d a k).fn.length=k*d.tag.length/\(fx c cp d a k).nx.length=k*(d.tag.length*(2*aW d))
 |0=>by simp[fx]
 |k+1=>by
  have:=Uu c cp d a k;have h:=zlu c cp d (fx c cp d a k) d.tag.length;rw[fx];simp only[zu,Nat.one_mul];omega
theorem zqy{c:List UInt8}{cp:Int}{d:aE}{a k s:Nat}(hn:d.tag.length<=90)(hw:aW d<=100)(hk:k<=2)(hs:s<=d.tag.length):(kV c cp d (fx c cp d a k) s).tg.length<=270/\(kV c cp d (fx c cp d a k) s).fn.length<=270/\(kV c cp d (fx c cp d a k) s).nx.length<=54000:=by
 obtain⟨h1,h2,h3⟩:=zlu c cp d (fx c cp d a k) s;obtain⟨k1,k2,k3⟩:=Uu c cp d a k;have m1:=nt hk hn;have m2:=nt hs (show 2*aW d<=200 by omega);have m3:=nt hn (show 2*aW d<=200 by omega);have m4:=nt hk m3;have m5:=Nat.mul_le_mul_right 200 hn;omega
theorem zrL{c:List UInt8}{cp:Int}{d:aE}{a k:Nat}(hn:d.tag.length<=90)(hw:aW d<=100)(hk:k<=3):(fx c cp d a k).tg.length<=270/\(fx c cp d a k).fn.length<=270/\(fx c cp d a k).nx.length<=54000:=by
 obtain⟨k1,k2,k3⟩:=Uu c cp d a k;have m1:=nt hk hn;have m3:=nt hn (show 2*aW d<=200 by omega);have m4:=nt hk m3;omega
def RA(c:List UInt8)(cp:Nat)(d:aE)(a:Nat):aE×Nat:=(⟨qv d 256,d.width*2,(fx c cp d a cp).nx,(fx c cp d a cp).tg,(fx c cp d a cp).fn⟩,(fx c cp d a cp).a)
def uU(c:List UInt8)(d:aE)(a:Nat):aE×Nat:=RA c (2+(af c 2 a).1).toNat d (af c 2 a).2
structure lE(p:Nat)(w:zB)(B R g X:Nat)(C:Array zy)(W:zB)(width:Int)(v:Nat->zy)(ls:Nat->List Int):Prop where
 wj:fJ p w B R g W width v ls
 arg:W.heap[X]?=zh (zw C 25 (0,0))
 ne:X≠g/\X≠p
section
variable {p:Nat} {w W W':zB} {B R g X:Nat} {C:Array zy} {width:Int} {v:Nat->zy} {ls:Nat->List Int}
theorem lE.kp(h:lE p w B R g X C W width v ls)(hk:aJ p W W'):lE p w B R g X C W' width v ls:=⟨h.wj.kp hk,(hk.block X (az h.arg) h.ne.2).trans h.arg,h.ne⟩
theorem lE.field(h:lE p w B R g X C W width v ls){i:Nat}(hi:i<4)(off:Nat)(ho:sK i=off){u:zy}{ys:List Int}(hF:aS B 4 W' (upd v i u) (bq ls i ys))(hg:W.grownBy W' (v i).ownBlock):
  W'.heap[g]?=zh (zw (fH width v) 25 (0,0))/\lE p w B R g X C (W'.setCell ⟨g,off,za⟩ u) width (upd v i u) (bq ls i ys):=by
 have:=h.wj.field hi off ho hF hg;exact⟨this.1,this.2,(cS _ _ _ _ (show X≠g from h.ne.1)).trans (h.wj.aq.others (i:=i) (by omega) hg (by decide) h.arg),h.ne⟩
theorem lE.to{a b c d:List Int}(h:lE p w B R g X C W width v ls)(h0:ls 0=a)(h1:ls 1=b)(h2:ls 2=c)(h3:ls 3=d):lE p w B R g X C W width v (L4 a b c d):=⟨h.wj.to h0 h1 h2 h3,h.arg,h.ne⟩
theorem lE.yn(h:lE p w B R g X C W width v ls){c:List UInt8}{a:Nat}{r:Int}(hd:a7 W p c a r){i:Nat}(hi:i<4)(hg:W.grownBy W' (v i).ownBlock)(off:Nat)(u:zy):a7 (W'.setCell ⟨g,off,za⟩ u) p c a r:=h.wj.yn hd hi hg off u
theorem lE.aq(h:lE p w B R g X C W width v ls):aS B 4 W v ls:=h.wj.aq
theorem lE.dv(h:lE p w B R g X C W width v ls):W.heap[R]?=zh (zw bm 25 (0,0)):=h.wj.dv
theorem lE.box(h:lE p w B R g X C W width v ls):W.heap[g]?=zh (zw (fH width v) 25 (0,0)):=h.wj.box
end
theorem dW.cells{p:Nat}{w:zB}{ao:Option Addr}{n cap:Nat}{xs:List Int}(h:dW (p+1) w (.slice ao n cap) xs)(h0:0<xs.length):∃b o,ao=zh ⟨b,o,za⟩/\∀W,aJ p w W->∀k,k<xs.length->W.cell? ⟨b,o+k,za⟩=zh (zn .i64 (xs.getD k 0)):=by
 obtain⟨ao',cap',e,_,hc⟩:=h;injection e with e1 _ _
 subst e1;obtain⟨b,o,e2,eK,hlt,hk⟩:=hc h0;refine⟨b,o,e2,λW hW k hl=>?_⟩;rw[<-hk k hl];exact World.cell?_of_block (hW.block b hlt (by omega))
theorem zoe(k:Int):prog.built 25 [(1,zn .i64 k)]=zh #[zi za 0 0,zn .i64 k,zi za 0 0,zi za 0 0,zi za 0 0]:=by kernel_rfl
def zwd(t:TypeId)(parts:Array (Nat×zy)):Sem zy:=Instr.build t parts
theorem znb(parts:Array (Nat×zy)):Instr.build 25 parts=zwd 25 parts:=rfl
theorem zsP(k:Int)(W:zB):(zwd 25 #[(1,zn .i64 k)]).run prog W=.ok (zD #[zi za 0 0,zn .i64 k,zi za 0 0,zi za 0 0,zi za 0 0]) W:=run_build W _ _ _ (zoe k)
attribute [local go_sem ↓] znb
theorem zjV(w:zB)(p:Nat)(c:List UInt8)(a:Nat)(r:Int)(h:a7 w p c a r)(cv nv tv ev:zy)(d:aE)(hs:dk (p+1) w cv nv tv ev d)(hf:cL d)(hn:d.tag.length<=90)(hw:aW d<=100):
  Calls prog 32 #[zx (zh ⟨p,0,za⟩),zD #[cv,zn .i64 d.width,nv,tv,ev]] w (xA p w c (uU c d a).1 (uU c d a).2 r):=by
 have du:prog.follows .mixedOrders=true:=by kernel_rfl
 have dz:=h.lt;have hwd:=hf.wd;obtain⟨⟨ca,cc,rfl,cm,cx⟩,⟨na,nc,rfl,nm,nx⟩,⟨ta,tc,rfl,tm,tx⟩,⟨ea,ec,rfl,em,ex⟩⟩:=hs;have HCx:=aB (show dW (p+1) w (.slice ca d.aD.length cc) d.aD from⟨ca,cc,rfl,cm,cx⟩);have Vj:=aB (show dW (p+1) w (.slice na d.next.length nc) d.next from⟨na,nc,rfl,nm,nx⟩);have HTx:=aB (show dW (p+1) w (.slice ta d.tag.length tc) d.tag from⟨ta,tc,rfl,tm,tx⟩);have HEx:=aB (show dW (p+1) w (.slice ea d.fin.length ec) d.fin from⟨ea,ec,rfl,em,ex⟩);clear cx nx tx ex cm nm tm em;obtain⟨nC,IR⟩:∃n,d.aD.length=n:=⟨_,rfl⟩;obtain⟨nN,Lu⟩:∃n,d.next.length=n:=⟨_,rfl⟩;obtain⟨nT,SW⟩:∃n,d.tag.length=n:=⟨_,rfl⟩;obtain⟨nE,SU⟩:∃n,d.fin.length=n:=⟨_,rfl⟩;obtain⟨D,hD⟩:∃D,aW d=D:=⟨_,rfl⟩;have HnC:=aB IR;have HnN:=aB Lu;have xW:=aB SW;have HnE:=aB SU;have Kj:=aB hD;have HF:=aB hf;rw[hD]at hwd hw;obtain⟨ZD,zC7,zC8⟩:=hwd;rw[SW]at hn;rw[ZD,IR,Lu,SW,SU];have HW:=aB ZD;clear IR Lu SW SU hD hf ZD;obtain⟨W0,ay⟩:∃W0,(w.alloc (zw #[.slice ca nC cc,zn .i64 (D:Int),.slice na nN nc,.slice ta nT tc,.slice ea nE ec] 25)).alloc (zw bm 25)=W0:=⟨_,rfl⟩;have aG:zF w.heap.size w W0:=by rw[<-ay];exact(aC).alloc (by simp) _
 have x0:W0.heap[w.heap.size]?=zh (zw #[.slice ca nC cc,zn .i64 (D:Int),.slice na nN nc,.slice ta nT tc,.slice ea nE ec] 25 (0,0)):=by
  rw[<-ay];exact(Below.heap_alloc _ _ _ (by simp)).trans (aU w _)
 have z0:W0.heap[w.heap.size+1]?=zh (zw bm 25 (0,0)):=by
  rw[<-ay];have:=aU (w.alloc (zw #[.slice ca nC cc,zn .i64 (D:Int),.slice na nN nc,.slice ta nT tc,.slice ea nE ec] 25)) (zw bm 25)
  simpa using this
 have HP:=aB λW a hW (n:Int) (hn:n<=65536)=>uq W p c a r hW n hn
 have h2:=HP.out W0 a (h.keep λk hk=>aG.block k (by omega)) 2 (by omega);have dT:=ku h.le 2;have HG:zp (uU c d a=RA c (2+(af c 2 a).1).toNat d (af c 2 a).2):=rfl;obtain⟨x2,y2,mR⟩:∃x y,af c 2 a=(x,y):=⟨_,_,rfl⟩;rw[mR]at h2 dT HG;obtain⟨cp,l8⟩:∃N:Nat,2+x2=(N:Int):=⟨(2+x2).toNat,by have:=dT.2.1;simp only at this;omega⟩;have zCb:cp<=3:=by have:=dT.2.2;simp only at this;omega
 have zCc:2<=cp:=by have:=dT.2.1;simp only at this;omega
 have HG:zp (uU c d a=RA c cp d y2):=by rw[l8]at HG;exact HG.out
 unfold bm at ay;obtain⟨q0,q1,q2,q3,q4⟩:=bL x0;clear dT
 go_enter func32,ntmps32
 go_wp2_with fail
 refine h2.mono ?_;rintro e w1 ⟨rfl,eZ,cK⟩;have k1:=(aJ.of (p:=p) aG).trans cK;have X1:=(cK.block _ (az x0) (by omega)).trans x0;have Z1:=(cK.block _ (az z0) (by omega)).trans z0;have pg:=az Z1;obtain⟨s0,s1,s2,s3,s4⟩:=bL X1;have yL:=zsP ((D:Int)*2);clear h2 aG cK ay x0 z0 q0 q1 q2 q3 q4;obtain⟨W2,dY⟩:∃W2,w1.alloc (zw #[zi za 0 0,zn .i64 ((D:Int)*2),zi za 0 0,zi za 0 0,zi za 0 0] 25)=W2:=⟨_,rfl⟩;have aL:zF w1.heap.size w1 W2:=by rw[<-dY];exact aC
 have g2:W2.heap[w1.heap.size]?=zh (zw #[zi za 0 0,zn .i64 ((D:Int)*2),zi za 0 0,zi za 0 0,zi za 0 0] 25 (0,0)):=by rw[<-dY];exact aU _ _
 have hI:lE p w (w.heap.size+1) (w.heap.size+1) w1.heap.size w.heap.size #[.slice ca nC cc,zn .i64 (D:Int),.slice na nN nc,.slice ta nT tc,.slice ea nE ec] W2 ((D:Int)*2) (λ_=>zi za 0 0) (L4 (qv d 0) [] [] []):=
  ⟨⟨zrN (aS.nil _ _ _) rfl rfl rfl rfl,g2,aY Z1 aL,k1.trans (.of aL),by omega⟩,aY X1 aL,by omega⟩
 have HI:=aB hI;have HD:=aB (eZ.keep (w':=W2) λk hk=>aL.block k (by have:=eZ.lt;omega));have nB:=aB dY;clear hI eZ k1 X1 Z1 aL g2 dY;go_wp2;rw[nB.out];clear s0 s1 s2 s3 s4 yL;have E7:w.heap.size+1<w1.heap.size:=pg;clear pg nB;generalize w1.heap.size=G at *
 go_loopw [8] (λi wr=>∃k:Nat,k<=256/\i=zn .i64 k/\∃v,lE p w (w.heap.size+1) (w.heap.size+1) G w.heap.size #[.slice ca nC cc,zn .i64 (D:Int),.slice na nN nc,.slice ta nT tc,.slice ea nE ec] wr ((D:Int)*2) v (L4 (qv d k) [] [] [])/\a7 wr p c y2 r) (λi _=>256-(intOf i).toNat)
 case atStart=>exact⟨0,by omega,rfl,_,HI.out,HD.out⟩
 case round=>
  clear HI HD;obtain⟨k,hk,rfl,v,hS,hC⟩:=hrel;have HS:=aB hS;have HC:=aB hC;have hsz:=az HS.out.dv;clear hS hC
  by_cases hlt:k<256
  ·have Dt:(k:Int)<256:=by omega
   obtain⟨⟨a0,c0⟩,mK⟩:=cJ (HS.out.aq.own 0 (by omega));rw[show L4 (qv d k) [] [] [] 0=qv d k from rfl,Ub]at mK;have HV:zp (v 0=.slice a0 k c0):=mK;have x0:∀s:fD p wr,s.W.cell? ⟨G,0,za⟩=zh (.slice a0 k c0):=λs=>by rw[<-HV.out];exact(cE (HS.out.kp s.h).box).1
   have bn:=HF.out.sf hlt;obtain⟨cb,co,hca,kH⟩:=HCx.out.cells (by rw[HF.out.cl];omega);have x1:∀s:fD p wr,s.W.cell? ⟨w.heap.size,0,za⟩=zh (.slice ca nC cc):=λs=>(bL (HS.out.kp s.h).arg).1
   subst hca;have x2:∀s:fD p wr,s.W.cell? ⟨cb,co+k,za⟩=zh (zn .i64 (eH d k:Int)):=λs=>by rw[kH _ ((HS.out.kp s.h).wj.kept) k (by rw[HF.out.cl];omega),bn.1]
   have IR:(k:Int)<(nC:Int):=by have h1:=HnC.out;have h2:=HF.out.cl;omega
   have i0:(0:Int)<=(k:Int):=by omega
   have hK:zp (qv d (k+1)=qv d k++[(eH d k:Int)*2+((k%2:Nat):Int)]):=by show _=_;rw[zor,bn.1]
   have hx:eH d k<256:=by have:=bn.2;have:=Kj.out;omega
   generalize eH d k=x at *;have hrm:(k:Int)%2=((k%2:Nat):Int):=by omega
   have zC2:k%2<2:=Nat.mod_lt _ (by omega);generalize k%2=y at *;clear mK bn kH
   go_upto_region 7 with fail
   refine ul [0,1,2,3,4,5,6,7,8,9,10] [11,12,13,14] 12 (λw'=>∃s:fD p wr,w'=s.W) (λw'=>w'=World.drew wr) du ⟨⟨World.drew wr,(aJ.refl _ _).drew⟩,rfl⟩ rfl (by kernel_rfl) ?_;intro os aX;simp only[jL,jM,jO,jN]at aX;subst aX
   change wpQuiet _ _ _ _ [_,_,_,_,_,_,_,_,_,_,_] _
   repeat (go_big_quiet_step (fail))
   refine wpQuiet_nil ?_;rintro w' rfl r' di;simp only[jL,jM,jO,jN,qS]at di;subst di;clear x0 x1 x2;refine lV rfl (λK5 bh=>?_)
   first|go_big_move|go_big_op
   refine bh _ _ (λ_=>⟨⟨_,(aJ.refl _ _).drew.alloc _⟩,rfl⟩) ?_;clear bh K5;have dg:=aB (HS.out.kp (W':=wr.drew) (aJ.refl _ _).drew);have QD:=aB (HC.out.keep (w':=wr.drew) λ_ _=>rfl);have hsz:w.heap.size+1<wr.drew.heap.size:=hsz;refine um (by simp) (λ_ _ h=>h) ?_
   change wpList _ _ _ [_,_,_] _ _
   go_wp2_with (at_builtin;refine jw dg.out.aq _ rfl rfl (.tmp 30) (.tmp 40) rfl 0 (by omega) (qv d k) rfl k (Ub _ _) (by exact HV.out.symm) _ rfl (by omega) hsz ?_;intro g2 d2 V2 hF2 dH;obtain⟨eG,J2⟩:=dg.out.field (i:=0) (by omega) 0 rfl hF2 dH;have vP:=aB (dg.out.yn QD.out (i:=0) (by omega) dH 0 (zi (zh ⟨g2,0,za⟩) (k+1) d2));have yW:=(cE eG).1;rw[HV.out]at yW;have q9:=aR _ _ 0 _ _ eG;have oP:=aB J2;clear hF2 dH eG J2)
   rw[oJ];go_wp2
   go_roundw
   case rel=>exact⟨k+1,by omega,by go_num,_,by rw[hK.out];exact oP.out.to rfl rfl rfl rfl,vP.out⟩
   case measure=>simp[intOf];omega
  ·have ru:k=256:=by omega
   have eK:¬(k:Int)<256:=by omega
   rw[ru]at HS;clear hk hlt ru;have eF:zp (lE p w (w.heap.size+1) (w.heap.size+1) G w.heap.size #[.slice ca nC cc,zn .i64 (D:Int),.slice na nN nc,.slice ta nT tc,.slice ea nE ec] wr ((D:Int)*2) v (L4 (qv d 256) (fx c cp d y2 0).nx (fx c cp d y2 0).tg (fx c cp d y2 0).fn)):=HS.out;have HC0:zp (a7 wr p c (fx c cp d y2 0).a r):=HC.out;have zG:zp ((qv d 256).length=256):=Ub d 256;have vK:zp (uU c d a=(⟨qv d 256,d.width*2,(fx c cp d y2 cp).nx,(fx c cp d y2 cp).tg,(fx c cp d y2 cp).fn⟩,(fx c cp d y2 cp).a)):=HG.out;generalize qv d 256=cl at *;clear HS HC hsz HG;go_wp2
   go_loopw [9] (λi wr=>∃k:Nat,k<=cp/\i=zn .i64 k/\∃v,lE p w (w.heap.size+1) (w.heap.size+1) G w.heap.size #[.slice ca nC cc,zn .i64 (D:Int),.slice na nN nc,.slice ta nT tc,.slice ea nE ec] wr ((D:Int)*2) v (L4 cl (fx c cp d y2 k).nx (fx c cp d y2 k).tg (fx c cp d y2 k).fn)/\a7 wr p c (fx c cp d y2 k).a r) (λi _=>cp-(intOf i).toNat)
   case atStart=>exact⟨0,by omega,rfl,_,eF.out,HC0.out⟩
   case round=>
    clear eF HC0 v;obtain⟨k,hk,rfl,v,hS,hC⟩:=hrel;have HS:=aB hS;have HC:=aB hC;clear hS hC
    by_cases hlt:k<cp
    ·have Dt:(k:Int)<(cp:Int):=by omega
     have M8:zp (∀s,s<=nT->(kV c cp d (fx c cp d y2 k) s).tg.length<=270/\(kV c cp d (fx c cp d y2 k) s).fn.length<=270/\(kV c cp d (fx c cp d y2 k) s).nx.length<=54000):=λs hs=>zqy (by rw[xW.out];exact hn) (by rw[Kj.out];exact hw) (by omega) (by rw[xW.out];exact hs)
     have kS:zp (fx c cp d y2 (k+1)=kV c cp d (fx c cp d y2 k) nT):=by show _=_;rw[fx,xW.out]
     generalize fx c cp d y2 k=st at *;go_wp2
     go_loopw [10] (λi wr=>∃s:Nat,s<=nT/\i=zn .i64 s/\∃v,lE p w (w.heap.size+1) (w.heap.size+1) G w.heap.size #[.slice ca nC cc,zn .i64 (D:Int),.slice na nN nc,.slice ta nT tc,.slice ea nE ec] wr ((D:Int)*2) v (L4 cl (kV c cp d st s).nx (kV c cp d st s).tg (kV c cp d st s).fn)/\a7 wr p c (kV c cp d st s).a r) (λi _=>nT-(intOf i).toNat)
     case atStart=>exact⟨0,by omega,rfl,_,HS.out,HC.out⟩
     case round=>
      clear HS HC v;obtain⟨s,hs,rfl,v,hS,hC⟩:=hrel;have HS:=aB hS;have HC:=aB hC;clear hS hC
      by_cases YT:s<nT
      ·have zCK:(s:Int)<(nT:Int):=by omega
       have HNS:zp (kV c cp d st (s+1)=Rz c cp d (kV c cp d st s) s):=rfl;have M9:=aB (M8.out s hs);generalize kV c cp d st s=su at *;obtain⟨nx,tg,fn,ak⟩:=su;replace HS:zp (lE p w (w.heap.size+1) (w.heap.size+1) G w.heap.size #[.slice ca nC cc,zn .i64 (D:Int),.slice na nN nc,.slice ta nT tc,.slice ea nE ec] wr ((D:Int)*2) v (L4 cl nx tg fn)):=HS.out;replace HC:zp (a7 wr p c ak r):=HC.out;replace M9:zp (tg.length<=270/\fn.length<=270/\nx.length<=54000):=M9.out;go_wp2
       go_loopw [11] (λi wr=>∃j:Nat,j<=D/\i=zn .i64 j/\∃v,lE p w (w.heap.size+1) (w.heap.size+1) G w.heap.size #[.slice ca nC cc,zn .i64 (D:Int),.slice na nN nc,.slice ta nT tc,.slice ea nE ec] wr ((D:Int)*2) v (L4 cl (mJ c cp d s nx ak j).1 tg fn)/\a7 wr p c (mJ c cp d s nx ak j).2 r) (λi _=>D-(intOf i).toNat)
       case atStart=>exact⟨0,by omega,rfl,v,HS.out,HC.out⟩
       case round=>
        clear HS HC v;obtain⟨j,hj,rfl,v,hS,hC⟩:=hrel;have HS:=aB hS;have HC:=aB hC;have q1:wr.cell? ⟨w.heap.size,1,za⟩=zh (zn .i64 (D:Int)):=(bL hS.arg).2.1;have q2:wr.cell? ⟨w.heap.size,2,za⟩=zh (.slice na nN nc):=(bL hS.arg).2.2.1;clear hS hC
        by_cases OL:j<D
        ·have zAF:(j:Int)<(D:Int):=by omega
         have OW:s<d.tag.length:=by rw[xW.out];exact YT
         have YM:j<aW d:=by rw[Kj.out];exact OL
         have iD:=HF.out.nx OW YM;have il:=HF.out.uh OW YM;rw[Kj.out]at iD il;obtain⟨nb,no,hna,ry⟩:=Vj.out.cells (by omega);subst hna;have q3:wr.cell? ⟨nb,no+(s*D+j),za⟩=zh (zn .i64 (bU d s j:Int)):=by rw[ry wr HS.out.wj.kept _ il,iD.1]
         rw[HnN.out]at il;obtain⟨P,wA,eJ,KU,Is,Fc,wB⟩:=Jx (s:=s) (wd:=D) (c:=j) (L:=nN) (by omega) (by omega) il;have yH:=zlt c cp d s nx ak j;have Bn:zp (mJ c cp d s nx ak (j+1)=((mJ c cp d s nx ak j).1++[(bU d s j:Int)+(af c cp (mJ c cp d s nx ak j).2).1*(nT:Int)]++[(bU d s j:Int)+(af c cp (af c cp (mJ c cp d s nx ak j).2).2).1*(nT:Int)],(af c cp (af c cp (mJ c cp d s nx ak j).2).2).2)):=by show _=_;rw[mJ,xW.out]
         have hz:bU d s j<90:=by have:=iD.2;rw[xW.out]at this;omega
         rw[<-wB]at q3;generalize bU d s j=z at *;generalize mJ c cp d s nx ak j=sv at *;obtain⟨xs,aj⟩:=sv;replace yH:xs.length=nx.length+2*j:=yH;have la:=ku HC.out.le cp;have pa:=HP.out wr _ HC.out cp (by omega);obtain⟨xa,ya,wM⟩:∃x y,af c cp aj=(x,y):=⟨_,_,rfl⟩;simp only[wM]at la pa Bn;have lb:=ku la.1 cp;have pb:=λW hW=>HP.out W ya hW cp (by omega)
         obtain⟨xb,yb,FQ⟩:∃x y,af c cp ya=(x,y):=⟨_,_,rfl⟩;simp only[FQ]at lb pb Bn;have Yd:=la.2.1;have K9:xa<3:=by have:=la.2.2;omega
         have aG:=lb.2.1;have aP:xb<3:=by have:=lb.2.2;omega
         obtain⟨Qa,hQa,zB1,zB2⟩:∃Q,xa*(nT:Int)=Q/\0<=Q/\Q<=270:=⟨_,rfl,Bd Yd (by omega),by have:=xH (show xa<=3 by omega) (show (nT:Int)<=90 by omega) (by omega) (by omega);omega⟩;obtain⟨Qb,hQb,zB3,zB4⟩:∃Q,xb*(nT:Int)=Q/\0<=Q/\Q<=270:=⟨_,rfl,Bd aG (by omega),by have:=xH (show xb<=3 by omega) (show (nT:Int)<=90 by omega) (by omega) (by omega);omega⟩;rw[hQa,hQb]at Bn;obtain⟨⟨a1,c1⟩,ev⟩:=cJ (HS.out.aq.own 1 (by omega));obtain⟨m,hm⟩:∃m,xs.length=m:=⟨_,rfl⟩;rw[show L4 cl xs tg fn 1=xs from rfl,hm]at ev;have HV:zp (v 1=.slice a1 m c1):=ev;have HM:=aB hm;have fY:m<=60000:=by have:=M9.out.2.2;omega
         clear ev hm yH iD il wM FQ la lb ry wB OW YM
         go_wp2_with fail
         refine pa.mono ?_;rintro e w3 ⟨rfl,eM,cP⟩
         go_wp2_with fail
         refine(pb w3 eM).mono ?_;rintro e w4 ⟨rfl,pk,mf⟩;have kT:=aB (HS.out.kp (cP.trans mf));have hsz:=az kT.out.dv;have e2:w4.cell? ⟨G,2,za⟩=zh (.slice a1 m c1):=by rw[<-HV.out];exact(cE kT.out.box).2.2.1
         clear pa pb eM cP mf HS q1 q2 q3
         go_upto_region 21 with (at_builtin;refine jw kT.out.aq _ rfl rfl (.tmp 76) (.tmp 82) rfl 1 (by omega) xs rfl m HM.out (by exact HV.out.symm) _ rfl (by omega) hsz ?_;intro g2 d2 V2 hF2 dH;obtain⟨eG,J2⟩:=kT.out.field (i:=1) (by omega) 2 rfl hF2 dH;have vP:=aB (kT.out.yn pk (i:=1) (by omega) dH 2 (zi (zh ⟨g2,0,za⟩) (m+1) d2));have yW:=(cE eG).2.2.1;rw[HV.out]at yW;have q9:=aR _ _ 2 _ _ eG;have oP:=aB J2;clear hF2 dH eG J2)
         generalize hU:V2.setCell ⟨G,2,za⟩ (zi (zh ⟨g2,0,za⟩) (m+1) d2)=U2 at *;have Vu:zp (upd v 1 (zi (zh ⟨g2,0,za⟩) (m+1) d2) 1=zi (zh ⟨g2,0,za⟩) (m+1) d2):=rfl;have HMb:zp ((xs++[(z:Int)+Qa]).length=m+1):=by show _=_;rw[a6,HM.out];rfl
         have hsz:=az oP.out.dv;have e3:=(cE oP.out.box).2.2.1;rw[Vu.out]at e3;have Vs:=aB oP.out;have HDb:=aB vP.out;clear yW q9 hU e2 oP vP
         go_wp2_with (at_builtin;refine jw Vs.out.aq _ rfl rfl (.tmp 86) (.tmp 92) rfl 1 (by omega) (xs++[(z:Int)+Qa]) rfl (m+1) HMb.out (by exact Vu.out.symm) _ rfl (by omega) hsz ?_;intro g5 d5 V5 hF2 dF;obtain⟨eG,J2⟩:=Vs.out.field (i:=1) (by omega) 2 rfl hF2 dF;have G8:=aB (Vs.out.yn HDb.out (i:=1) (by omega) dF 2 (zi (zh ⟨g5,0,za⟩) ((m+1)+1) d5));have Jm:=(cE eG).2.2.1;rw[Vu.out]at Jm;have Ic:=aR _ _ 2 _ _ eG;have zH:=aB J2;clear hF2 dF eG J2)
         go_roundw
         case rel=>exact⟨j+1,by omega,by go_num,_,by rw[Bn.out];exact zH.out.to rfl rfl rfl rfl,by rw[Bn.out];exact G8.out⟩
         case measure=>simp[intOf];omega
        ·have hjD:j=D:=by omega
         subst hjD;have HNT:zp (kV c cp d st (s+1)=⟨(mJ c cp d s nx ak j).1,tg++[d.tag.getD s 0],fn++[d.fin.getD s 0],(mJ c cp d s nx ak j).2⟩):=by show _=_;rw[HNS.out,Rz,Kj.out]
         generalize mJ c cp d s nx ak j=sv at *;obtain⟨xs,aj⟩:=sv;replace HS:zp (lE p w (w.heap.size+1) (w.heap.size+1) G w.heap.size #[.slice ca nC cc,zn .i64 (j:Int),.slice na nN nc,.slice ta nT tc,.slice ea nE ec] wr ((j:Int)*2) v (L4 cl xs tg fn)):=HS.out;replace HC:zp (a7 wr p c aj r):=HC.out;obtain⟨tb,qI,O6,htc⟩:=HTx.out.cells (by rw[xW.out];omega);obtain⟨eb,eo,Yt,hec⟩:=HEx.out.cells (by rw[HF.out.fl,xW.out];omega);subst O6 Yt;have SU:(s:Int)<(nE:Int):=by have h1:=HnE.out;have h2:=HF.out.fl;have h3:=xW.out;omega
         have i0:(0:Int)<=(s:Int):=by omega
         have HT:zp (∀W,aJ p w W->W.cell? ⟨tb,qI+s,za⟩=zh (zn .i64 (d.tag.getD s 0))):=λW hW=>htc W hW s (by rw[xW.out];exact YT)
         have HE:zp (∀W,aJ p w W->W.cell? ⟨eb,eo+s,za⟩=zh (zn .i64 (d.fin.getD s 0))):=λW hW=>hec W hW s (by rw[HF.out.fl,xW.out];exact YT)
         generalize d.tag.getD s 0=tv at *;generalize d.fin.getD s 0=fv at *;obtain⟨⟨a2,c2⟩,jo⟩:=cJ (HS.out.aq.own 2 (by omega));obtain⟨m2,fY⟩:∃m,tg.length=m:=⟨_,rfl⟩;rw[show L4 cl xs tg fn 2=tg from rfl,fY]at jo;obtain⟨⟨a3,c3⟩,ig⟩:=cJ (HS.out.aq.own 3 (by omega));obtain⟨m3,lN⟩:∃m,fn.length=m:=⟨_,rfl⟩;rw[show L4 cl xs tg fn 3=fn from rfl,lN]at ig;have qm:zp (v 2=.slice a2 m2 c2):=jo;have xP:zp (v 3=.slice a3 m3 c3):=ig;have rX:=aB fY;have QM:=aB lN;have zAI:m2<=270:=by have:=M9.out.1;omega
         have zAJ:m3<=270:=by have:=M9.out.2.1;omega
         clear jo ig fY lN htc hec HNS q2;have x0:∀s:fD p wr,s.W.cell? ⟨G,3,za⟩=zh (.slice a2 m2 c2):=λs=>by rw[<-qm.out];exact(cE (HS.out.kp s.h).box).2.2.2.1
         have x1:∀s:fD p wr,s.W.cell? ⟨w.heap.size,3,za⟩=zh (zi (zh ⟨tb,qI,za⟩) nT tc):=λs=>(bL (HS.out.kp s.h).arg).2.2.2.1
         have x2:∀s:fD p wr,s.W.cell? ⟨tb,qI+_,za⟩=zh (zn .i64 tv):=λs=>HT.out _ (HS.out.kp s.h).wj.kept
         go_upto_region 22 with fail
         refine ul [0,1,2,3,4,5,6] [7,8,9,10] 8 (λw'=>∃s:fD p wr,w'=s.W) (λw'=>w'=World.drew wr) du ⟨⟨World.drew wr,(aJ.refl _ _).drew⟩,rfl⟩ rfl (by kernel_rfl) ?_;intro os aX;simp only[jL,jM,jO,jN]at aX;subst aX
         change wpQuiet _ _ _ _ [_,_,_,_,_,_,_] _
         repeat (go_big_quiet_step (fail))
         refine wpQuiet_nil ?_;rintro w' rfl r' di;simp only[jL,jM,jO,jN,qS]at di;subst di;clear x0 x1 x2;refine lV rfl (λK5 bh=>?_)
         first|go_big_move|go_big_op
         refine bh _ _ (λ_=>⟨⟨_,(aJ.refl _ _).drew.alloc _⟩,rfl⟩) ?_;clear bh K5;have dg:=aB (HS.out.kp (W':=wr.drew) (aJ.refl _ _).drew);have QD:=aB (HC.out.keep (w':=wr.drew) λ_ _=>rfl);have hsz:w.heap.size+1<wr.drew.heap.size:=az dg.out.dv;clear HS HC;refine um (by simp) (λ_ _ h=>h) ?_
         change wpList _ _ _ [_,_,_] _ _
         go_wp2_with (at_builtin;refine jw dg.out.aq _ rfl rfl (.tmp 96) (.tmp 102) rfl 2 (by omega) tg rfl m2 rX.out (by exact qm.out.symm) _ rfl (by omega) hsz ?_;intro g2 d2 V2 hF2 dH;obtain⟨eG,J2⟩:=dg.out.field (i:=2) (by omega) 3 rfl hF2 dH;have vP:=aB (dg.out.yn QD.out (i:=2) (by omega) dH 3 (zi (zh ⟨g2,0,za⟩) (m2+1) d2));have yW:=(cE eG).2.2.2.1;rw[qm.out]at yW;have q9:=aR _ _ 3 _ _ eG;have oP:=aB J2;clear hF2 dH eG J2)
         rw[oJ];have eL:=aB (oP.out.to (a:=cl) (b:=xs) (c:=tg++[tv]) (d:=fn) rfl rfl rfl rfl);have mE:=aB vP.out;have zO:zp (upd v 2 (zi (zh ⟨g2,0,za⟩) (m2+1) d2) 3=.slice a3 m3 c3):=xP.out;generalize upd v 2 (zi (zh ⟨g2,0,za⟩) (m2+1) d2)=v9 at *;generalize hU:V2.setCell ⟨G,3,za⟩ (zi (zh ⟨g2,0,za⟩) (m2+1) d2)=U at *;clear oP vP yW q9 dg QD hsz hU;have x0:∀s:fD p U,s.W.cell? ⟨G,4,za⟩=zh (.slice a3 m3 c3):=λs=>by rw[<-zO.out];exact(cE (eL.out.kp s.h).box).2.2.2.2
         have x1:∀s:fD p U,s.W.cell? ⟨w.heap.size,4,za⟩=zh (zi (zh ⟨eb,eo,za⟩) nE ec):=λs=>(bL (eL.out.kp s.h).arg).2.2.2.2
         have x2:∀s:fD p U,s.W.cell? ⟨eb,eo+_,za⟩=zh (zn .i64 fv):=λs=>HE.out _ (eL.out.kp s.h).wj.kept
         go_upto_region 23 with fail
         refine ul [0,1,2,3,4,5,6] [7,8,9,10] 8 (λw'=>∃s:fD p U,w'=s.W) (λw'=>w'=World.drew U) du ⟨⟨World.drew U,(aJ.refl _ _).drew⟩,rfl⟩ rfl (by kernel_rfl) ?_;intro os aX;simp only[jL,jM,jO,jN]at aX;subst aX
         change wpQuiet _ _ _ _ [_,_,_,_,_,_,_] _
         repeat (go_big_quiet_step (fail))
         refine wpQuiet_nil ?_;rintro w' rfl r' di;simp only[jL,jM,jO,jN,qS]at di;subst di;clear x0 x1 x2;refine lV rfl (λK5 bh=>?_)
         first|go_big_move|go_big_op
         refine bh _ _ (λ_=>⟨⟨_,(aJ.refl _ _).drew.alloc _⟩,rfl⟩) ?_;clear bh K5;have lZ:=aB (eL.out.kp (W':=U.drew) (aJ.refl _ _).drew);have HCa:=aB (mE.out.keep (w':=U.drew) λ_ _=>rfl);have hsz:w.heap.size+1<U.drew.heap.size:=az lZ.out.dv;clear eL mE;refine um (by simp) (λ_ _ h=>h) ?_
         change wpList _ _ _ [_,_,_] _ _
         go_wp2_with (at_builtin;refine jw lZ.out.aq _ rfl rfl (.tmp 106) (.tmp 112) rfl 3 (by omega) fn rfl m3 QM.out (by exact zO.out.symm) _ rfl (by omega) hsz ?_;intro g5 d5 V5 hF2 dF;obtain⟨eG,J2⟩:=lZ.out.field (i:=3) (by omega) 4 rfl hF2 dF;have G8:=aB (lZ.out.yn HCa.out (i:=3) (by omega) dF 4 (zi (zh ⟨g5,0,za⟩) (m3+1) d5));have Jm:=(cE eG).2.2.2.2;rw[zO.out]at Jm;have Ic:=aR _ _ 4 _ _ eG;have zH:=aB J2;clear hF2 dF eG J2)
         rw[oJ];go_wp2
         go_roundw
         case rel=>exact⟨s+1,by omega,by go_num,_,by rw[HNT.out];exact zH.out.to rfl rfl rfl rfl,by rw[HNT.out];exact G8.out⟩
         case measure=>simp[intOf];omega
      ·have OW:s=nT:=by omega
       subst OW;rw[<-kS.out]at HS HC;go_wp2
       go_roundw
       case rel=>exact⟨k+1,by omega,by go_num,_,HS.out,HC.out⟩
       case measure=>simp[intOf];omega
    ·have Az:k=cp:=by omega
     subst Az;obtain⟨le1,le2,le3⟩:=zrL (c:=c) (cp:=k) (d:=d) (a:=y2) (k:=k) (by rw[xW.out];exact hn) (by rw[Kj.out];exact hw) (by omega);have GZ:=aB HS.out.wj;obtain⟨⟨a0,c0⟩,mK⟩:=cJ (GZ.out.aq.own 0 (by omega));obtain⟨⟨a1,c1⟩,pK⟩:=cJ (GZ.out.aq.own 1 (by omega));obtain⟨⟨a2,c2⟩,jo⟩:=cJ (GZ.out.aq.own 2 (by omega));obtain⟨⟨a3,c3⟩,ig⟩:=cJ (GZ.out.aq.own 3 (by omega));have HE:=aB (GZ.out.done HC.out (by
      intro i hi
      match i,hi with
      |0,_=>show cl.length<=_;have h0:=zG.out;omega
      |1,_=>show (fx c k d y2 k).nx.length<=_;omega
      |2,_=>show (fx c k d y2 k).tg.length<=_;omega
      |3,_=>show (fx c k d y2 k).fn.length<=_;omega))
     obtain⟨b0,b1,b2,b3,b4⟩:=cE GZ.out.box;have io:=GZ.out.dv;have r0:=aR _ _ 0 _ _ io;have r1:=aR _ _ 1 _ _ io;have r2:=aR _ _ 2 _ _ io;have r3:=aR _ _ 3 _ _ io;have r4:=aR _ _ 4 _ _ io;unfold bm at io;obtain⟨z0,z1,z2,z3,z4⟩:=bL io;simp only at mK pK jo ig;rw[mK,pK,jo,ig]at HE;rw[mK]at b0;rw[pK]at b2;rw[jo]at b3;rw[ig]at b4;clear io mK pK jo ig
     skip
     go_wp2;refine bw (v:=_) (by simp[results,results32,go_sem,z0,z1,z2,z3,z4];rfl) rfl ?_;rw[vK.out,HW.out];exact⟨_,_,_,_,rfl,HE.out⟩
end Go.Proofs.Ytfajjdgkiilhfaa
