import Derived.Test.YtfajjdgkiilhfaaGreatDoorC5
namespace Go.Proofs.YtfajjdgkiilhfaaGreatDoor
open Proofs.Tryz
open Option renaming none->za,some->zb
open Value renaming slice->zc,int->zd,pointer->zg,agg->zj
open RowKit renaming Hid->ze,Below->zk
open Obj renaming cells->zf
open Go renaming Value->zh,World->zi
set_option maxHeartbeats 8000000
set_option maxRecDepth 100000
open Go.RowKit
attribute [local go_sem ↓] wp_at_zero wp_at_succ
section
variable {R p B D:Nat}{W:zi}{v:Nat -> zh}{l:Nat -> List Int}{a b c d:List Int}{x:Int}
def L4(a b c d:List Int):Nat->List Int
 |0=>a
 |1=>b
 |2=>c
 |_=>d
theorem zp9(h:aI R 4 W v l)(h0:l 0=a)(h1:l 1=b)(h2:l 2=c)(h3:l 3=d):aI R 4 W v (L4 a b c d):=
 ⟨λi hi=>by
  match i,hi with
  |0,_=>have:=h.own 0 (by omega);rw[h0]at this;exact this
  |1,_=>have:=h.own 1 (by omega);rw[h1]at this;exact this
  |2,_=>have:=h.own 2 (by omega);rw[h2]at this;exact this
  |3,_=>have:=h.own 3 (by omega);rw[h3]at this;exact this,h.apart⟩
theorem eZ.to{w:zi}{g:Nat}{width:Int}(h:eZ p w B R g W width v l)(h0:l 0=a)(h1:l 1=b)(h2:l 2=c)(h3:l 3=d):eZ p w B R g W width v (L4 a b c d):=⟨zp9 h.au h0 h1 h2 h3,h.box,h.bw,h.kept,h.base⟩
def fK(c:List UInt8)(wd:Int)(a:Nat):Nat->List Int×Nat
 |0=>(List.replicate 256 0,a)
 |k+1=>((fK c wd a k).1.set (97+k) (ae c wd (fK c wd a k).2).1,(ae c wd (fK c wd a k).2).2)
def nB(c:List UInt8)(wd:Int)(a:Nat):List Int×Nat:=
 if (ae c 3 (fK c wd a 6).2).1=2 then ((fK c wd a 6).1.set (ae c 256 (ae c 3 (fK c wd a 6).2).2).1.toNat (ae c wd (ae c 256 (ae c 3 (fK c wd a 6).2).2).2).1,(ae c wd (ae c 256 (ae c 3 (fK c wd a 6).2).2).2).2)
 else ((fK c wd a 6).1,(ae c 3 (fK c wd a 6).2).2)
def kZ(c:List UInt8)(n:Int)(x:List Int)(a:Nat):Nat->List Int×Nat
 |0=>(x,a)
 |k+1=>((kZ c n x a k).1++[(ae c n (kZ c n x a k).2).1],(ae c n (kZ c n x a k).2).2)
structure vF where
 nx:List Int
 tg:List Int
 fn:List Int
 a:Nat
def zO(x:Int):Int:=if x-3 < -1 then -1 else x-3
def SH(c:List UInt8)(nx tg fn:List Int)(t:Int)(a:Nat):vF:=
 if (ae c 4 a).1=3 then ⟨nx,tg++[t],fn++[(ae c 3 (ae c 4 a).2).1-1],(ae c 3 (ae c 4 a).2).2⟩ else ⟨nx,tg++[t],fn++[t],(ae c 4 a).2⟩
def SI(c:List UInt8)(n:Int)(wd:Nat)(s:vF):vF:=
 SH c (kZ c n s.nx s.a wd).1 s.tg s.fn (zO (ae c 6 (kZ c n s.nx s.a wd).2).1) (ae c 6 (kZ c n s.nx s.a wd).2).2
def fH(c:List UInt8)(n:Int)(wd:Nat)(a:Nat):Nat->vF
 |0=>⟨[],[],[],a⟩
 |k+1=>SI c n wd (fH c n wd a k)
def Y5(c:List UInt8)(n wd:Nat)(a:Nat):aL×Nat:=
 (⟨(nB c wd a).1,wd,(fH c n wd (nB c wd a).2 n).nx,(fH c n wd (nB c wd a).2 n).tg,(fH c n wd (nB c wd a).2 n).fn⟩,(fH c n wd (nB c wd a).2 n).a)
def nR(c:List UInt8)(a:Nat):aL×Nat:=Y5 c (2+(ae c 13 a).1).toNat (2+(ae c 4 (ae c 13 a).2).1).toNat (ae c 4 (ae c 13 a).2).2
theorem zT(c:List UInt8)(wd:Int)(a:Nat):∀k,(fK c wd a k).1.length=256
 |0=>List.length_replicate
 |k+1=>by rw[fK];exact jQ.trans (zT c wd a k)
theorem znA(c:List UInt8)(wd:Int)(a:Nat):(nB c wd a).1.length=256:=by
 unfold nB;split
 ·exact jQ.trans (zT _ _ _ _)
 ·exact zT _ _ _ _
theorem ar{p:Prop}(h:p):ze p:=h
def AB(p B:Nat)(x:Int)(D:Nat):Nat->zh->zi->Prop
 |0,u,_=>u=zg (zb ⟨p,0,za⟩)
 |1,u,_=>u=zd .i64 x
 |2,u,_=>u=zd .i64 (D:Int)
 |3,u,W=>∃g,u=zc (zb ⟨g,0,za⟩) 256 256/\bX (B+1) W u (List.replicate 256 0)
 |4,u,W=>∃a0 n0 c0,u=zj #[.slice a0 n0 c0,zd .i64 (D:Int),zc za 0 0,zc za 0 0,zc za 0 0]/\bX (B+1) W (.slice a0 n0 c0) (List.replicate 256 0)
 |5,u,W=>∃q,u=zg (zb ⟨q,0,za⟩)/\B<q/\W.heap[q]?=zb (zf bI 25 (0,0))
 |_,_,_=>False
theorem AB.keep{W':zi}(hk:aE p W W')(hB:p<B):∀i u,AB p B x D i u W->AB p B x D i u W'
 |0,_,h=>h
 |1,_,h=>h
 |2,_,h=>h
 |3,_,⟨g,e,h⟩=>⟨g,e,nY h λb hb=>hk.block b (dG h hb).2 (by have:=(dG h hb).1;omega)⟩
 |4,_,⟨a0,n0,c0,e,h⟩=>⟨a0,n0,c0,e,nY h λb hb=>hk.block b (dG h hb).2 (by have:=(dG h hb).1;omega)⟩
 |5,_,⟨q,e,h1,h2⟩=>⟨q,e,h1,(hk.block q (ay h2) (by omega)).trans h2⟩
 |_+6,_,h=>h
theorem AB.lt:∀i u,AB p B x D i u W->∀b,u.ownBlock=zb b->b<W.heap.size
 |0,_,h,b,hb=>by cases h;cases hb
 |1,_,h,b,hb=>by cases h;cases hb
 |2,_,h,b,hb=>by cases h;cases hb
 |3,_,⟨g,e,h⟩,b,hb=>(dG h hb).2
 |4,_,⟨a0,n0,c0,e,h⟩,b,hb=>by subst e;cases hb
 |5,_,⟨q,e,h1,h2⟩,b,hb=>by subst e;cases hb
 |_+6,_,h,_,_=>h.elim
theorem zpK(a0:Option Addr)(n0 c0:Nat)(k:Int):prog.built 25 [(1,zd .i64 k),(0,.slice a0 n0 c0)]=zb #[.slice a0 n0 c0,zd .i64 k,zc za 0 0,zc za 0 0,zc za 0 0]:=by kernel_rfl
theorem ztg{ρ:Operand->zh}{o:Oper}{x y:Operand}(ho:o.op=.build 25 #[(1,x),(0,y)]){k:Int}{a0:Option Addr}{n0 c0:Nat}(hx:ρ x=zd .i64 k)(hy:ρ y=.slice a0 n0 c0)(w:zi):(execOp ρ o).run prog w=.ok (.value (zj #[.slice a0 n0 c0,zd .i64 k,zc za 0 0,zc za 0 0,zc za 0 0])) w:=by
 obtain⟨dst,op,type,pos,after,guard⟩:=o;simp only at ho;subst ho;have:=run_build (P:=prog) w 25 #[(1,zd .i64 k),(0,.slice a0 n0 c0)] _ (zpK a0 n0 c0 k);simp[execOp,hx,hy,this,Result.andThen]
theorem zh7(w:zi)(p:Nat)(c:List UInt8)(a:Nat)(r:Int)(h:aR w p c a r):
  Calls prog 40 #[zg (zb ⟨p,0,za⟩)] w (Ae p w c (nR c a).1 (nR c a).2 r):=by
 have fF:prog.follows .mixedOrders=true:=by kernel_rfl
 have du:=h.lt;obtain⟨W0,aw⟩:∃W0,w.alloc (zf bI 25)=W0:=⟨_,rfl⟩;have aD:zk w.heap.size w W0:=by rw[<-aw];exact ax
 have x0:W0.heap[w.heap.size]?=zb (zf bI 25 (0,0)):=by rw[<-aw];exact aJ _ _
 have hP:=λW a hW (n:Int) (hn:n<=65536)=>rK W p c a r hW n hn
 have Wi:=hP W0 a (h.keep λk hk=>aD.block k (by omega)) 13 (by omega);have HF:ze (nR c a=Y5 c (2+(ae c 13 a).1).toNat (2+(ae c 4 (ae c 13 a).2).1).toNat (ae c 4 (ae c 13 a).2).2):=rfl;have oH:=jL h.le 13;have eE:=jL oH.1 4;obtain⟨x1,y1,kC⟩:∃x y,ae c 13 a=(x,y):=⟨_,_,rfl⟩;rw[kC]at Wi HF oH eE;simp only at eE oH;obtain⟨x2,y2,lN⟩:∃x y,ae c 4 y1=(x,y):=⟨_,_,rfl⟩;obtain⟨N,hN⟩:∃N:Nat,2+x1=(N:Int):=⟨(2+x1).toNat,by omega⟩;have h4:=λW hW=>hP W y1 hW 4 (by omega)
 simp only[lN]at HF eE h4;obtain⟨D,hD⟩:∃D:Nat,2+x2=(D:Int):=⟨(2+x2).toNat,by omega⟩;have HF:ze (nR c a=Y5 c N D y2):=by rw[hN,hD]at HF;exact HF.out
 have Eg:2<=N/\N<=14:=by omega
 have Jv:2<=D/\D<=5:=by omega
 unfold bI at aw;clear oH eE
 go_enter func40,ntmps40
 go_wp2_with fail
 refine Wi.mono ?_;rintro e w1 ⟨rfl,eM,bO⟩;have k1:=(aE.of (p:=p) aD).trans bO;have X1:w1.heap[w.heap.size]?=zb (zf bI 25 (0,0)):=(bO.block _ (ay x0) (by omega)).trans x0;have r8:=ay X1;clear Wi aD bO aw x0
 go_upto_region 2 with fail
 refine zfW 6 [(0,14),(1,15),(2,16),(3,17),(4,18),(5,4)] (λl W=>aE p w1 W/\aR W p c (if l 1=true then y2 else y1) r)
  (AB p w.heap.size x2 D)
  fF (by kernel_rfl) (by kernel_rfl) rfl ?_ ?_ ?_ ?_ ?_ ?_ ?_ ?_
 ·intro q hq;show q.2<89;simp only[pD,yD,or_false]at hq;rcases hq with rfl|rfl|rfl|rfl|rfl|rfl<;>decide
 ·decide
 ·decide
 ·intro q hq;simp only[pD,yD,or_false]at hq;rcases hq with rfl|rfl|rfl|rfl|rfl|rfl<;>decide
 ·exact⟨(aE.refl _ _).drew,eM.keep λ_ _=>rfl⟩
 ·exact λi u W=>AB.lt i u
 ·intro l a W i o hJ hi ho hl oD;obtain⟨kS,kR⟩:=hJ.inv;have hWs:=kS.size
  match i,hi,ho with
  |0,_,ho=>
   cases ho
   have e0:a.eval (.tmp 0)=zg (zb ⟨p,0,za⟩):=hJ.act.ev 0 (by decide);refine A3 (Tu rfl W) rfl ⟨⟨kS,by simpa using kR⟩,λ_ _ h=>h,14,_,by simp,rfl,e0,λb hb=>?_⟩;rw[e0]at hb;cases hb
  |1,_,ho=>
   cases ho
   have e0:a.eval (.tmp 14)=zg (zb ⟨p,0,za⟩):=hJ.val (0,14) (by simp) (oD 0 (by decide));rw[hl,ab (by decide)]at kR;refine zrD (f:=17) (xs:=#[zg (zb ⟨p,0,za⟩),zd .i64 4]) (zpp (u:=zg (zb ⟨p,0,za⟩)) (v:=zd .i64 4) rfl rfl e0 rfl W (ye _ _)) rfl ((h4 W kR).mono ?_);rintro e W' ⟨rfl,vT,bC⟩;exact⟨_,rfl,⟨kS.trans bC,by simpa using vT⟩,λj u=>AB.keep bC (by omega) j u,15,_,by simp,rfl,rfl,λb hb=>by cases hb⟩
  |2,_,ho=>
   cases ho
   have e0:a.eval (.tmp 15)=zd .i64 x2:=hJ.val (1,15) (by simp) (oD 1 (by decide));have AW:IntKind.i64.wrap (2+x2)=(D:Int):=by rw[hD];exact zvO (by omega) (by omega)
   exact A3 (zte rfl rfl e0 AW W) rfl ⟨⟨kS,by simpa using kR⟩,λ_ _ h=>h,16,_,by simp,rfl,rfl,λb hb=>by cases hb⟩
  |3,_,ho=>
   cases ho
   refine Oy (n:=256) rfl (by omega) rfl rfl (w.heap.size+1) (by omega) rfl λW' h2 h3=>?_
   have bC:aE p W W':=(aE.refl _ _).grown h3 (λb hb=>by cases hb);refine⟨⟨kS.trans bC,by simpa using kR.grown h3 (λb hb=>by cases hb)⟩,λj u=>AB.keep bC (by omega) j u,17,_,by simp,rfl,⟨_,rfl,h2⟩,λb hb=>?_⟩;cases hb;exact aq _
  |4,_,ho=>
   cases ho
   have e0:a.eval (.tmp 16)=zd .i64 (D:Int):=hJ.val (2,16) (by simp) (oD 2 (by decide));obtain⟨g,e1,ho⟩:∃g,a.eval (.tmp 17)=zc (zb ⟨g,0,za⟩) 256 256/\bX (w.heap.size+1) W (a.eval (.tmp 17)) (List.replicate 256 0):=hJ.val (3,17) (by simp) (oD 3 (by decide));rw[e1]at ho;exact A3 (ztg rfl e0 e1 W) rfl ⟨⟨kS,by simpa using kR⟩,λ_ _ h=>h,18,_,by simp,rfl,⟨_,_,_,rfl,ho⟩,λb hb=>by cases hb⟩
  |5,_,ho=>
   cases ho
   have kT:zk W.heap.size W (W.alloc (zf bI 25)):=ax;exact A3 (zjr rfl W) rfl ⟨⟨kS.trans (.of kT),by simpa using kR.keep λk hk=>kT.block k (by have:=kR.lt;omega)⟩,λj u=>AB.keep (.of kT) (by omega) j u,4,_,by simp,rfl,⟨_,rfl,by omega,aJ _ _⟩,λb hb=>by cases hb⟩
 ·intro l aa W o hJ ho bm;cases ho;obtain⟨kS,kR⟩:=hJ.inv;have e0:aa.eval (.tmp 14)=zg (zb ⟨p,0,za⟩):=hJ.val (0,14) (by simp) (bm 0 (by omega));have e1:aa.eval (.tmp 15)=zd .i64 x2:=hJ.val (1,15) (by simp) (bm 1 (by omega));have e2:aa.eval (.tmp 16)=zd .i64 (D:Int):=hJ.val (2,16) (by simp) (bm 2 (by omega));obtain⟨a0,n0,c0,e4,Kv⟩:∃a0 n0 c0,aa.eval (.tmp 18)=zj #[.slice a0 n0 c0,zd .i64 (D:Int),zc za 0 0,zc za 0 0,zc za 0 0]/\bX (w.heap.size+1) W (.slice a0 n0 c0) (List.replicate 256 0):=hJ.val (4,18) (by simp) (bm 4 (by omega));obtain⟨q,e5,hq,xQ⟩:∃q,aa.eval (.tmp 4)=zg (zb ⟨q,0,za⟩)/\w.heap.size<q/\W.heap[q]?=zb (zf bI 25 (0,0)):=hJ.val (5,4) (by simp) (bm 5 (by omega));obtain⟨u3,e3⟩:∃u,aa.eval (.tmp 17)=u:=⟨_,rfl⟩;refine zl2 (zjs rfl e5 e4 xQ) rfl ?_;have ha:=zjC [(14,zg (zb ⟨p,0,za⟩)),(15,zd .i64 x2),(16,zd .i64 (D:Int)),(17,u3),(18,zj #[.slice a0 n0 c0,zd .i64 (D:Int),zc za 0 0,zc za 0 0,zc za 0 0]),(4,zg (zb ⟨q,0,za⟩))] _ aa hJ.act (by
   intro x hx;simp only[pD,yD,or_false]at hx;rcases hx with rfl|rfl|rfl|rfl|rfl|rfl
   ·exact⟨(by decide:14<89),e0⟩
   ·exact⟨(by decide:15<89),e1⟩
   ·exact⟨(by decide:16<89),e2⟩
   ·exact⟨(by decide:17<89),e3⟩
   ·exact⟨(by decide:18<89),e4⟩
   ·exact⟨(by decide:4<89),e5⟩)
  rw[ha];have xG:eZ p w w.heap.size w.heap.size q (ff W q (.slice a0 n0 c0) (zd .i64 (D:Int)) (zc za 0 0) (zc za 0 0) (zc za 0 0)) D (upd (λ_=>zc za 0 0) 0 (.slice a0 n0 c0)) (L4 (fK c D y2 0).1 [] [] []):=by
   have et:=zkk (wd:=D) (v:=upd (λ_=>zc za 0 0) 0 (.slice a0 n0 c0)) (show W.heap[q]?=zb (zf #[_,_,_,_,_] _ _) from xQ);refine⟨⟨λi hi=>?_,λi j hi hj hne b hb=>?_⟩,et,(zQ (by omega)).trans ((kS.block _ r8 (by omega)).trans X1),OG (k1.trans kS) (by omega) _ _ _ _ _,by omega⟩
   ·match i,hi with
    |0,_=>
     refine nY Kv λb hb=>zQ λe=>?_
     obtain⟨aZ,hc⟩:=wG Kv hb;rw[e,xQ]at hc;exact absurd (zR hc) (by decide)
    |1,_=>exact⟨rfl,.inl ⟨rfl,rfl⟩⟩
    |2,_=>exact⟨rfl,.inl ⟨rfl,rfl⟩⟩
    |3,_=>exact⟨rfl,.inl ⟨rfl,rfl⟩⟩
   ·intro hc;have hz:∀i,i≠0->(upd (λ_=>Value.slice za 0 0) 0 (.slice a0 n0 c0) i).ownBlock=za:=λi hi=>by rw[eF _ _ hi];rfl
    by_cases e:i=0
    ·rw[hz j (by omega)]at hc;cases hc
    ·rw[hz i e]at hb;cases hb
  have Gp:aR (ff W q (.slice a0 n0 c0) (zd .i64 (D:Int)) (zc za 0 0) (zc za 0 0) (zc za 0 0)) p c (fK c D y2 0).2 r:=by
   rw[bm 1 (by omega),af rfl]at kR;exact kR.keep λk hk=>zQ (by omega)
  generalize ff W q (.slice a0 n0 c0) (zd .i64 (D:Int)) (zc za 0 0) (zc za 0 0) (zc za 0 0)=W3 at xG Gp ⊢;clear hJ bm kS kR e0 e1 e2 e3 e4 e5 Kv xQ ha;simp only[List.foldl_cons,List.foldl_nil,Act.put,vl,yF,yB];clear h4 X1 r8 k1 eM;have Ax:=ar xG;have DJ:=ar Gp;have ED:=xG.low;have Sd:=xG.base;clear xG Gp;go_wp2
  go_loopw [5] (λi wr=>∃k:Nat,k<=6/\i=zd .i64 k/\∃v,eZ p w w.heap.size w.heap.size q wr D v (L4 (fK c D y2 k).1 [] [] [])/\aR wr p c (fK c D y2 k).2 r) (λi _=>6-(intOf i).toNat)
  case atStart=>exact⟨0,by omega,rfl,_,Ax.out,DJ.out⟩
  case round=>
   clear Ax DJ ED;obtain⟨k,lK,rfl,v,hS,hC⟩:=hrel;have ED:=hS.low
   by_cases hlt:k<6
   ·have Cm:(k:Int)<6:=by omega
    obtain⟨b0,VY,xT,bS,zyw,Cf,pe⟩:=hS.row (i:=0) (by omega) (by show 0<(fK c D y2 k).1.length;rw[zT];omega);rw[show L4 (fK c D y2 k).1 [] [] [] 0=(fK c D y2 k).1 from rfl,zT]at xT Cf;have HS:=ar hS;have HC:=ar hC;have x0:∀s:fJ p wr,s.W.cell? ⟨q,0,za⟩=zb (zc (zb ⟨b0,0,za⟩) 256 VY):=λs=>by rw[<-xT];exact(cE (HS.out.kp s.h).box).1
    have x1:∀s:fJ p wr,s.W.cell? ⟨q,1,za⟩=zb (zd .i64 (D:Int)):=λs=>(cE (HS.out.kp s.h).box).2.1
    have i0:(0:Int)<=97+(k:Int):=by omega
    have i1:97+(k:Int)<256:=by omega
    have wi:=hP wr.drew _ (hC.keep λ_ _=>rfl) D (by omega);obtain⟨y,a',hy⟩:∃y a',ae c D (fK c D y2 k).2=(y,a'):=⟨_,_,rfl⟩;have HN:ze (fK c D y2 (k+1)=((fK c D y2 k).1.set (97+k) y,a')):=by show _=_;rw[fK,hy]
    rw[hy]at wi;have fx:=ar wi;have Hc0:=ar (Cf (97+k) (by omega));have Qe:=ar (pe (97+k));have HV:=ar xT;clear hS hC wi hy Cf pe xT
    go_upto_region 6 with fail
    refine tY [0,1,2,3,4,5,6] [7,8,9] 8 (λw'=>∃s:fJ p wr,w'=s.W) (λw'=>w'=wr.drew) fF ⟨⟨wr.drew,(aE.refl _ _).drew⟩,rfl⟩ rfl (by kernel_rfl) ?_;intro os bN;simp only[jw,jx,jA,jy]at bN;subst bN
    change wpQuiet _ _ _ _ [_,_,_,_,_,_,_] _
    repeat (go_big_quiet_step (fail))
    refine wpQuiet_nil ?_;rintro w' rfl r' dC;simp only[jw,jx,jA,jy,rQ]at dC;subst dC;clear x0 x1;refine mj rfl (λK5 bM=>?_);refine yk 17 #[.tmp 27,.tmp 29] #[39,3] (by rfl) #[zg (zb ⟨p,0,za⟩),zd .i64 (D:Int)] (by simp[Act.eval]) (λv w'=>v=zd .i64 y/\aR w' p c a' r/\aE p wr.drew w') (ye _ _) (fx.out.mono (by
     rintro e w1 ⟨rfl,h1⟩;exact⟨_,rfl,rfl,h1⟩)) ?_
    rintro v8 W8 ⟨rfl,mQ,kW⟩;have fE:aE p wr W8:=(aE.refl _ _).drew.trans kW;refine bM _ _ (λ_=>⟨⟨_,fE⟩,rfl⟩) ?_;clear bM K5;have dm:=ar (HS.out.kp fE);obtain⟨gR,kU⟩:=dm.out.at (i:=0) (by omega) HV.out;rw[show L4 (fK c D y2 k).1 [] [] [] 0=(fK c D y2 k).1 from rfl,zT]at gR;have u8:=gR (97+k) (by omega);have f8:=kU (97+k);clear gR kU Hc0 Qe fx;refine tZ (by simp) (λ_ _ h=>h) ?_
    change wpList _ _ _ [_,_] _ _
    go_wp2;rw[qc];go_wp2
    go_roundw
    case rel=>
     refine⟨k+1,by omega,by go_num,v,?_,?_⟩
     ·rw[HN.out];exact(dm.out.put (i:=0) (by omega) HV.out (zT _ _ _ _) (97+k) y).to rfl rfl rfl rfl
     ·rw[HN.out];exact mQ.put (by omega) _ _
    case measure=>simp[intOf];omega
   ·obtain rfl:k=6:=by omega
    have HS:=ar hS;have HC:=ar hC;clear hS hC;have sg:=jL HC.out.le 3;have tP:=hP wr _ HC.out 3 (by omega);have HX:ze (nB c D y2=if (ae c 3 (fK c D y2 6).2).1=2 then ((fK c D y2 6).1.set (ae c 256 (ae c 3 (fK c D y2 6).2).2).1.toNat (ae c D (ae c 256 (ae c 3 (fK c D y2 6).2).2).2).1,(ae c D (ae c 256 (ae c 3 (fK c D y2 6).2).2).2).2) else ((fK c D y2 6).1,(ae c 3 (fK c D y2 6).2).2)):=rfl;obtain⟨x3,y3,sA⟩:∃x y,ae c 3 (fK c D y2 6).2=(x,y):=⟨_,_,rfl⟩;rw[sA]at sg tP HX;have oW:=ar sg.1;have HP:=ar hP;clear sg hP
    go_upto_region 7 with fail
    go_cut [34] from 32 to 34 (λv wx=>v=.bool (decide (x3=2))/\aE p wr wx/\aR wx p c y3 r)
    case first=>
     go_wp2_with (go_at_call 17;refine tP.mono ?_;rintro e w3 ⟨rfl,eU,bQ⟩)
     go_meet
     exact⟨by first|rfl|simp,bQ,eU⟩
    obtain⟨rfl,bQ,eU⟩:=hcut
    rename_i K hK
    refine hK _ _ ?_;clear hK K tP;have BF:=ar (HS.out.kp bQ);have Au:=ar eU;obtain⟨V,hV⟩:∃V,V=wc:=⟨_,rfl⟩;subst hV
    go_cut [6] from 34 to 44 (λ_ wx=>∃v,eZ p w w.heap.size w.heap.size q wx D v (L4 (nB c D y2).1 [] [] [])/\aR wx p c (nB c D y2).2 r)
    case first=>
     clear bQ eU HS HC
     by_cases vO:x3=2
     ·subst vO;have vx:=ar (HX.out.trans (af rfl));have RT:=jL oW.out 256;have NH:=HP.out V _ Au.out 256 (by omega);obtain⟨x4,y4,EO⟩:∃x y,ae c 256 y3=(x,y):=⟨_,_,rfl⟩;simp only[EO]at RT NH vx;obtain⟨m4,rfl⟩:∃m:Nat,x4=(m:Int):=⟨x4.toNat,by have:=RT.2.1;omega⟩;have hm4:(m4:Int)<256:=by have:=RT.2.2;omega
      clear HX RT
      go_upto_region 9 with (go_at_call 17;refine NH.mono ?_;rintro e wr ⟨rfl,pd,jf⟩;clear NH)
      have HD4:=ar pd;have kO:=ar (BF.out.kp jf);obtain⟨b0,VY,xT,bS,zyw,-,-⟩:=kO.out.row (i:=0) (by omega) (by show 0<(fK c D y2 6).1.length;rw[zT];omega);rw[show L4 (fK c D y2 6).1 [] [] [] 0=(fK c D y2 6).1 from rfl,zT]at xT;have x0:∀s:fJ p wr,s.W.cell? ⟨q,0,za⟩=zb (zc (zb ⟨b0,0,za⟩) 256 VY):=λs=>by rw[<-xT];exact(cE (kO.out.kp s.h).box).1
      have x1:∀s:fJ p wr,s.W.cell? ⟨q,1,za⟩=zb (zd .i64 (D:Int)):=λs=>(cE (kO.out.kp s.h).box).2.1
      have i0:(0:Int)<=(m4:Int):=by omega
      have fx:=ar (HP.out wr.drew _ (HD4.out.keep λ_ _=>rfl) D (by omega));obtain⟨y,a',hy⟩:∃y a',ae c D y4=(y,a'):=⟨_,_,rfl⟩;have HN:ze (nB c D y2=((fK c D y2 6).1.set m4 y,a')):=by rw[hy]at vx;exact vx.out
      rw[hy]at fx;have HV:=ar xT;clear pd jf xT hy EO sA BF Au vx
      go_upto_region 9 with fail
      refine tY [0,1,2,3,4,5] [6,7,8] 7 (λw'=>∃s:fJ p wr,w'=s.W) (λw'=>w'=World.drew wr) fF ⟨⟨World.drew wr,(aE.refl _ _).drew⟩,rfl⟩ rfl (by kernel_rfl) ?_;intro os bN;simp only[jw,jx,jA,jy]at bN;subst bN
      change wpQuiet _ _ _ _ [_,_,_,_,_,_] _
      repeat (go_big_quiet_step (fail))
      refine wpQuiet_nil ?_;rintro w' rfl r' dC;simp only[jw,jx,jA,jy,rQ]at dC;subst dC;clear x0 x1;refine mj rfl (λK5 bM=>?_);refine yk 17 #[.tmp 40,.tmp 42] #[39,3] (by rfl) #[zg (zb ⟨p,0,za⟩),zd .i64 (D:Int)] (by simp[Act.eval]) (λv w'=>v=zd .i64 y/\aR w' p c a' r/\aE p (World.drew wr) w') (ye _ _) (fx.out.mono (by
       rintro e w1 ⟨rfl,h1⟩;exact⟨_,rfl,rfl,h1⟩)) ?_
      rintro v8 W8 ⟨rfl,mQ,kW⟩;have fE:aE p wr W8:=(aE.refl _ _).drew.trans kW;refine bM _ _ (λ_=>⟨⟨_,fE⟩,rfl⟩) ?_;clear bM K5 fx;have dm:=ar (kO.out.kp fE);obtain⟨gR,kU⟩:=dm.out.at (i:=0) (by omega) HV.out;rw[show L4 (fK c D y2 6).1 [] [] [] 0=(fK c D y2 6).1 from rfl,zT]at gR;have u8:=gR m4 (by omega);have f8:=kU m4;clear gR kU;refine tZ (by simp) (λ_ _ h=>h) ?_
      change wpList _ _ _ [_,_] _ _
      go_wp2;rw[qc];go_wp2
      go_meet
      exact⟨v,by rw[HN.out];exact(dm.out.put (i:=0) (by omega) HV.out (zT _ _ _ _) m4 y).to rfl rfl rfl rfl,by rw[HN.out];exact mQ.put (by omega) _ _⟩
     ·have vx:=ar (HX.out.trans (ab vO));have hn:decide (x3=2)=false:=by simp[vO]
      rw[hn];go_wp2
      go_meet
      exact⟨v,by rw[vx.out];exact BF.out,by rw[vx.out];exact Au.out⟩
    case rest=>
     clear HS HC bQ eU BF Au HX sA oW V;obtain⟨v,hS,hC⟩:=hcut;have LR:ze (nR c a=(⟨(nB c D y2).1,D,(fH c N D (nB c D y2).2 N).nx,(fH c N D (nB c D y2).2 N).tg,(fH c N D (nB c D y2).2 N).fn⟩,(fH c N D (nB c D y2).2 N).a)):=HF.out;have vt:ze ((nB c D y2).1.length=256):=znA c D y2;generalize nB c D y2=X at hS hC LR vt;obtain⟨cl,ac⟩:=X;have Ax:=ar hS;have DJ:=ar hC;clear hS hC;go_wp2
     go_loopw [7] (λi wr=>∃k:Nat,k<=N/\i=zd .i64 k/\∃v,eZ p w w.heap.size w.heap.size q wr D v (L4 cl (fH c N D ac k).nx (fH c N D ac k).tg (fH c N D ac k).fn)/\aR wr p c (fH c N D ac k).a r/\(fH c N D ac k).nx.length<=5*k/\(fH c N D ac k).tg.length<=k/\(fH c N D ac k).fn.length<=k) (λi _=>N-(intOf i).toNat)
     case atStart=>exact⟨0,by omega,rfl,_,Ax.out,DJ.out,by simp[fH],by simp[fH],by simp[fH]⟩
     case round=>
      clear Ax DJ v;obtain⟨k,GN,rfl,v,hS,hC,oH,eE,sg⟩:=hrel;have ED:=hS.low;have HS:=ar hS;have HC:=ar hC;have l6:=ar oH;have l7:=ar eE;have oW:=ar sg;clear hS hC oH eE sg
      by_cases hlt:k<N
      ·have Cm:(k:Int)<(N:Int):=by omega
       generalize hst:fH c N D ac k=st at *;obtain⟨nx,tg,fn,ak⟩:=st;have HN:ze (fH c N D ac (k+1)=SI c N D ⟨nx,tg,fn,ak⟩):=by show _=_;rw[fH,hst]
       clear hst;replace l6:ze (nx.length<=5*k):=l6.out;replace l7:ze (tg.length<=k):=l7.out;replace oW:ze (fn.length<=k):=oW.out;replace HS:ze (eZ p w w.heap.size w.heap.size q wr D v (L4 cl nx tg fn)):=HS.out;replace HC:ze (aR wr p c ak r):=HC.out;go_wp2
       go_loopw [8] (λi wr=>∃j:Nat,j<=D/\i=zd .i64 j/\∃v,eZ p w w.heap.size w.heap.size q wr D v (L4 cl (kZ c N nx ak j).1 tg fn)/\aR wr p c (kZ c N nx ak j).2 r/\(kZ c N nx ak j).1.length=nx.length+j) (λi _=>D-(intOf i).toNat)
       case atStart=>exact⟨0,by omega,rfl,v,HS.out,HC.out,rfl⟩
       case round=>
        clear HS HC v ED;obtain⟨j,hjD,rfl,v,hS,hC,si⟩:=hrel;have ED:=hS.low;have HS:=ar hS;have HC:=ar hC;have x1:wr.cell? ⟨q,1,za⟩=zb (zd .i64 (D:Int)):=(cE hS.box).2.1;clear hS hC
        by_cases GR:j<D
        ·have zza:(j:Int)<(D:Int):=by omega
         have fx:=ar (HP.out wr.drew _ (HC.out.keep λ_ _=>rfl) N (by omega));have vw:ze (kZ c N nx ak (j+1)=((kZ c N nx ak j).1++[(ae c N (kZ c N nx ak j).2).1],(ae c N (kZ c N nx ak j).2).2)):=rfl;generalize kZ c N nx ak j=st at *;obtain⟨xs,aj⟩:=st;obtain⟨y,a',hy⟩:∃y a',ae c N aj=(y,a'):=⟨_,_,rfl⟩;simp only[hy]at fx vw;obtain⟨m,hm⟩:∃m,xs.length=m:=⟨_,rfl⟩;have HM:=ar hm;have fZ:m<=100:=by have:=l6.out;have h2:xs.length=nx.length+j:=si;omega
         have qn:ze (m=nx.length+j):=by show _=_;rw[<-hm];exact si
         obtain⟨⟨a1,c1⟩,ev⟩:=dQ (HS.out.au.own 1 (by omega));rw[show L4 cl xs tg fn 1=xs from rfl,hm]at ev;have HV:ze (v 1=.slice a1 m c1):=ev;have x2:∀s:fJ p wr,s.W.cell? ⟨q,2,za⟩=zb (.slice a1 m c1):=λs=>by rw[<-HV.out];exact(cE (HS.out.kp s.h).box).2.2.1
         clear hm si ev hy
         go_upto_region 16 with fail
         refine tY [0,1,2,3] [4,5,6,7,8] 6 (λw'=>∃s:fJ p wr,w'=s.W) (λw'=>w'=World.drew wr) fF ⟨⟨World.drew wr,(aE.refl _ _).drew⟩,rfl⟩ rfl (by kernel_rfl) ?_;intro os bN;simp only[jw,jx,jA,jy]at bN;subst bN
         change wpQuiet _ _ _ _ [_,_,_,_] _
         repeat (go_big_quiet_step (fail))
         refine wpQuiet_nil ?_;rintro w' rfl r' dC;simp only[jw,jx,jA,jy,rQ]at dC;subst dC;clear x2 x1;refine mj rfl (λK5 bM=>?_);refine yk 17 #[.tmp 58,.tmp 59] #[39,3] (by rfl) #[zg (zb ⟨p,0,za⟩),zd .i64 (N:Int)] (by simp[Act.eval]) (λv w'=>v=zd .i64 y/\aR w' p c a' r/\aE p (World.drew wr) w') (ye _ _) (fx.out.mono (by
          rintro e w1 ⟨rfl,h1⟩;exact⟨_,rfl,rfl,h1⟩)) ?_
         rintro v8 W8 ⟨rfl,mQ,kW⟩;have fE:aE p wr W8:=(aE.refl _ _).drew.trans kW;refine bM _ _ (λ_=>⟨⟨_,fE⟩,rfl⟩) ?_;clear bM K5 fx;have dm:=ar (HS.out.kp fE);have hsz:=ay dm.out.bw;simp only[Act.put,vl,yF,yB];refine mj rfl (λK5 bM=>?_)
         first|go_big_move|go_big_op
         refine bM _ _ (λ_=>⟨⟨_,fE.alloc _⟩,rfl⟩) ?_;clear bM K5;refine tZ (by simp) (λ_ _ h=>h) ?_
         change wpList _ _ _ [_,_,_] _ _
         go_wp2_with (at_builtin;refine kJ dm.out.au _ rfl rfl (.tmp 57) (.tmp 61) rfl 1 (by omega) xs rfl m HM.out (by exact HV.out.symm) y rfl (by omega) hsz ?_;intro g2 d2 V2 hF2 dE;obtain⟨dr,J2⟩:=dm.out.field (i:=1) (by omega) 2 rfl hF2 dE;have Hdc:=ar (dm.out.rY mQ (i:=1) (by omega) dE 2 (zc (zb ⟨g2,0,za⟩) (m+1) d2));have SV:=(cE dr).2.2.1;rw[HV.out]at SV;have oA:=aM _ _ 2 _ _ dr;have kg:=ar J2;clear hF2 dE dr J2)
         rw[qc];go_wp2
         go_roundw
         case rel=>exact⟨j+1,by omega,by go_num,_,by rw[vw.out];exact kg.out.to rfl rfl rfl rfl,by rw[vw.out];exact Hdc.out,by rw[vw.out];have:=HM.out;have:=qn.out;simp;omega⟩
         case measure=>simp[intOf];omega
        ·have zBK:j=D:=by omega
         subst zBK;have GP:=jL HC.out.le 6;have G0:=HP.out wr _ HC.out 6 (by omega);have FT:ze (fH c N j ac (k+1)=SH c (kZ c N nx ak j).1 tg fn (zO (ae c 6 (kZ c N nx ak j).2).1) (ae c 6 (kZ c N nx ak j).2).2):=HN.out;generalize kZ c N nx ak j=st at *;obtain⟨xs,aj⟩:=st;obtain⟨x6,y6,iE⟩:∃x y,ae c 6 aj=(x,y):=⟨_,_,rfl⟩;simp only[iE]at GP G0 FT;have zD9:0<=x6:=GP.2.1;have zEa:x6<6:=by have:=GP.2.2;omega
         have HX:ze (xs.length=nx.length+j):=si;clear si iE GP HN;obtain⟨⟨a2,c2⟩,eP⟩:=dQ (HS.out.au.own 2 (by omega));obtain⟨m2,fZ⟩:∃m,tg.length=m:=⟨_,rfl⟩;rw[show L4 cl xs tg fn 2=tg from rfl,fZ]at eP;obtain⟨⟨a3,c3⟩,fi⟩:=dQ (HS.out.au.own 3 (by omega));obtain⟨m3,lL⟩:∃m,fn.length=m:=⟨_,rfl⟩;rw[show L4 cl xs tg fn 3=fn from rfl,lL]at fi;have nA:ze (v 2=.slice a2 m2 c2):=eP;have uv:ze (v 3=.slice a3 m3 c3):=fi;have qn:=ar fZ;have PQ:=ar lL;have zBU:m2<=20:=by have:=l7.out;omega
         have zBV:m3<=20:=by have:=oW.out;omega
         clear eP fi fZ lL;obtain⟨T,hT,Xf⟩:∃T,ze (zO x6=T)/\((x6-3 < -1/\T=-1)\/(¬x6-3 < -1/\T=x6-3)):=by
          by_cases h:x6-3 < -1
          ·exact⟨-1,by show _=_;unfold zO;rw[af h],.inl ⟨h,rfl⟩⟩
          ·exact⟨x6-3,by show _=_;unfold zO;rw[ab h],.inr ⟨h,rfl⟩⟩
         rcases Xf with ⟨Xf,rfl⟩|⟨Xf,rfl⟩
         all_goals
          go_wp2_with fail
          refine G0.mono ?_;rintro e w6 ⟨rfl,Eu,lK⟩;have qY:=ar (HS.out.kp lK);have hsz:=ay qY.out.bw;have e3:w6.cell? ⟨q,3,za⟩=zb (.slice a2 m2 c2):=by rw[<-nA.out];exact(cE qY.out.box).2.2.2.1
          clear G0 HS HC x1
          go_wp2_with (at_builtin;refine kJ qY.out.au _ rfl rfl (.tmp 70) (.tmp 72) rfl 2 (by omega) tg rfl m2 qn.out (by exact nA.out.symm) _ rfl (by omega) hsz ?_;intro g2 d2 V2 hF2 dE;obtain⟨dr,J2⟩:=qY.out.field (i:=2) (by omega) 3 rfl hF2 dE;have pG:=ar (qY.out.rY Eu (i:=2) (by omega) dE 3 (zc (zb ⟨g2,0,za⟩) (m2+1) d2));have qb:=(cE dr).2.2.2.1;rw[nA.out]at qb;have oA:=aM _ _ 3 _ _ dr;have kg:=ar J2;clear hF2 dE dr J2)
          have RU:=jL pG.out.le 4;have Ct:=HP.out _ _ pG.out 4 (by omega);obtain⟨x7,y7,zI⟩:∃x y,ae c 4 y6=(x,y):=⟨_,_,rfl⟩;simp only[zI]at RU Ct;have yM:ze (fH c N j ac (k+1)=if x7=3 then ⟨xs,tg++[zO x6],fn++[(ae c 3 y7).1-1],(ae c 3 y7).2⟩ else ⟨xs,tg++[zO x6],fn++[zO x6],y7⟩):=by
           have:=FT.out;unfold SH at this;rw[zI]at this;exact this
          have lH:=ar (kg.out.to (a:=cl) (b:=xs) (c:=tg++[_]) (d:=fn) rfl rfl rfl rfl);clear zI FT kg pG qY Eu lK qb oA;refine Ct.mono ?_;rintro e w7 ⟨rfl,Ev,uK⟩;replace lH:=ar (lH.out.kp uK);have hsz:=ay lH.out.bw;have e4:w7.cell? ⟨q,4,za⟩=zb (.slice a3 m3 c3):=by rw[<-uv.out];exact(cE lH.out.box).2.2.2.2
          have th:ze (upd v 2 (zc (zb ⟨g2,0,za⟩) (m2+1) d2) 3=.slice a3 m3 c3):=uv.out;have Vo:=ar Ev;clear Ct uK Ev
          by_cases Wp:x7=3
          ·subst Wp;have ur:=ar (yM.out.trans (af rfl));have RV:=jL RU.1 3;have Cu:=HP.out _ _ Vo.out 3 (by omega);obtain⟨x8,y8,wo⟩:∃x y,ae c 3 y7=(x,y):=⟨_,_,rfl⟩;simp only[wo]at RV Cu ur;have zEb:0<=x8:=RV.2.1;have zEc:x8<3:=by have:=RV.2.2;omega
           clear wo RV RU yM
           go_wp2_with fail
           refine Cu.mono ?_;rintro e w8 ⟨rfl,mQ,kW⟩;have dm:=ar (lH.out.kp kW);have hsz:=ay dm.out.bw;have e5:w8.cell? ⟨q,4,za⟩=zb (.slice a3 m3 c3):=by rw[<-th.out];exact(cE dm.out.box).2.2.2.2
           clear Cu lH Vo e4
           go_wp2_with (at_builtin;refine kJ dm.out.au _ rfl rfl (.tmp 83) (.tmp 85) rfl 3 (by omega) fn rfl m3 PQ.out (by exact th.out.symm) _ rfl (by omega) hsz ?_;intro g5 d5 V5 hF2 kV;obtain⟨dr,J2⟩:=dm.out.field (i:=3) (by omega) 4 rfl hF2 kV;have BN:=ar (dm.out.rY mQ (i:=3) (by omega) kV 4 (zc (zb ⟨g5,0,za⟩) (m3+1) d5));have CK:=(cE dr).2.2.2.2;rw[th.out]at CK;have D8:=aM _ _ 4 _ _ dr;have vv:=ar J2;clear hF2 kV dr J2)
           go_roundw
           case rel=>exact⟨k+1,by omega,by go_num,_,by rw[ur.out,hT.out];exact vv.out.to rfl rfl rfl rfl,by rw[ur.out];exact BN.out,by rw[ur.out];have:=HX.out;have:=l6.out;show xs.length<=_;omega,by rw[ur.out];have:=l7.out;simp;omega,by rw[ur.out];have:=oW.out;simp;omega⟩
           case measure=>simp[intOf];omega
          ·have ur:=ar (yM.out.trans (ab Wp));have zCN:(x7==3)=false:=by simp[Wp]
           clear yM RU
           go_wp2_with (at_builtin;refine kJ lH.out.au _ rfl rfl (.tmp 83) (.tmp 85) rfl 3 (by omega) fn rfl m3 PQ.out (by exact th.out.symm) _ rfl (by omega) hsz ?_;intro g5 d5 V5 hF2 kV;obtain⟨dr,J2⟩:=lH.out.field (i:=3) (by omega) 4 rfl hF2 kV;have BN:=ar (lH.out.rY Vo.out (i:=3) (by omega) kV 4 (zc (zb ⟨g5,0,za⟩) (m3+1) d5));have CK:=(cE dr).2.2.2.2;rw[th.out]at CK;have D8:=aM _ _ 4 _ _ dr;have vv:=ar J2;clear hF2 kV dr J2)
           go_roundw
           case rel=>exact⟨k+1,by omega,by go_num,_,by rw[ur.out,hT.out];exact vv.out.to rfl rfl rfl rfl,by rw[ur.out];exact BN.out,by rw[ur.out];have:=HX.out;have:=l6.out;show xs.length<=_;omega,by rw[ur.out];have:=l7.out;simp;omega,by rw[ur.out];have:=oW.out;simp;omega⟩
           case measure=>simp[intOf];omega
      ·have GN:k=N:=by omega
       subst GN;obtain⟨⟨a0,c0⟩,iI⟩:=dQ (HS.out.au.own 0 (by omega));obtain⟨⟨a1,c1⟩,jY⟩:=dQ (HS.out.au.own 1 (by omega));obtain⟨⟨a2,c2⟩,eP⟩:=dQ (HS.out.au.own 2 (by omega));obtain⟨⟨a3,c3⟩,fi⟩:=dQ (HS.out.au.own 3 (by omega));have HE:=ar (HS.out.done HC.out (by
        intro i hi
        match i,hi with
        |0,_=>show cl.length<=_;have h0:cl.length=256:=vt.out;omega
        |1,_=>show (fH c k D ac k).nx.length<=_;have:=l6.out;omega
        |2,_=>show (fH c k D ac k).tg.length<=_;have:=l7.out;omega
        |3,_=>show (fH c k D ac k).fn.length<=_;have:=oW.out;omega))
       obtain⟨b0,b1,b2,b3,b4⟩:=cE HS.out.box;have dK:=HS.out.bw;have r0:=aM _ _ 0 _ _ dK;have r1:=aM _ _ 1 _ _ dK;have r2:=aM _ _ 2 _ _ dK;have r3:=aM _ _ 3 _ _ dK;have r4:=aM _ _ 4 _ _ dK;unfold bI at dK;obtain⟨z0,z1,z2,z3,z4⟩:=dM dK;simp only at iI jY eP fi;rw[iI,jY,eP,fi]at HE;rw[iI]at b0;rw[jY]at b2;rw[eP]at b3;rw[fi]at b4;clear dK iI jY eP fi
       skip
       go_wp2;refine aW (v:=_) (by simp[results,results40,go_sem,z0,z1,z2,z3,z4];rfl) rfl ?_;rw[LR.out];exact⟨_,_,_,_,rfl,HE.out⟩
end
def qw(d:aL)(k:Nat):List Int:=(List.range k).map λch=>d.ai.getD ch 0*2+((ch%2:Nat):Int)
theorem TW(d:aL)(k:Nat):(qw d k).length=k:=by simp[qw]
theorem zp0(d:aL)(k:Nat):qw d (k+1)=qw d k++[d.ai.getD k 0*2+((k%2:Nat):Int)]:=by simp[qw,List.range_succ]
def mM(c:List UInt8)(cp:Int)(d:aL)(s:Nat)(x:List Int)(a:Nat):Nat->List Int×Nat
 |0=>(x,a)
 |j+1=>((mM c cp d s x a j).1++[(fj d s j:Int)+(ae c cp (mM c cp d s x a j).2).1*(d.tag.length:Int)]++[(fj d s j:Int)+(ae c cp (ae c cp (mM c cp d s x a j).2).2).1*(d.tag.length:Int)],(ae c cp (ae c cp (mM c cp d s x a j).2).2).2)
theorem zmD(c:List UInt8)(cp:Int)(d:aL)(s:Nat)(x:List Int)(a:Nat):∀j,(mM c cp d s x a j).1.length=x.length+2*j
 |0=>rfl
 |j+1=>by
  have:=zmD c cp d s x a j;rw[mM];simp only[aQ,lW,qU];omega
def QA(c:List UInt8)(cp:Int)(d:aL)(st:vF)(s:Nat):vF:=⟨(mM c cp d s st.nx st.a (bn d)).1,st.tg++[d.tag.getD s 0],st.fn++[d.fin.getD s 0],(mM c cp d s st.nx st.a (bn d)).2⟩
def kQ(c:List UInt8)(cp:Int)(d:aL)(st:vF):Nat->vF
 |0=>st
 |s+1=>QA c cp d (kQ c cp d st s) s
def fB(c:List UInt8)(cp:Int)(d:aL)(a:Nat):Nat->vF
 |0=>⟨[],[],[],a⟩
 |k+1=>kQ c cp d (fB c cp d a k) d.tag.length
theorem zmE(c:List UInt8)(cp:Int)(d:aL)(st:vF):∀s,(kQ c cp d st s).tg.length=st.tg.length+s/\(kQ c cp d st s).fn.length=st.fn.length+s/\(kQ c cp d st s).nx.length=st.nx.length+s*(2*bn d)
 |0=>by simp[kQ]
 |s+1=>by
  have:=zmE c cp d st s;rw[kQ,QA];have h:=zmD c cp d s (kQ c cp d st s).nx (kQ c cp d st s).a (bn d);simp only[aQ,lW,qU,Aj,Nat.one_mul];omega
theorem Ua(c:List UInt8)(cp:Int)(d:aL)(a:Nat):∀k,(fB c cp d a k).tg.length=k*d.tag.length/\(fB c cp d a k).fn.length=k*d.tag.length/\(fB c cp d a k).nx.length=k*(d.tag.length*(2*bn d))
 |0=>by simp[fB]
 |k+1=>by
  have:=Ua c cp d a k;have h:=zmE c cp d (fB c cp d a k) d.tag.length;rw[fB];simp only[Aj,Nat.one_mul];omega
theorem zss{c:List UInt8}{cp:Int}{d:aL}{a k s:Nat}(hn:d.tag.length<=90)(hw:bn d<=100)(hk:k<=2)(hs:s<=d.tag.length):(kQ c cp d (fB c cp d a k) s).tg.length<=270/\(kQ c cp d (fB c cp d a k) s).fn.length<=270/\(kQ c cp d (fB c cp d a k) s).nx.length<=54000:=by
 obtain⟨h1,h2,h3⟩:=zmE c cp d (fB c cp d a k) s;obtain⟨k1,k2,k3⟩:=Ua c cp d a k;have m1:=oU hk hn;have m2:=oU hs (show 2*bn d<=200 by omega);have m3:=oU hn (show 2*bn d<=200 by omega);have m4:=oU hk m3;have m5:=IM 200 hn;omega
theorem ztC{c:List UInt8}{cp:Int}{d:aL}{a k:Nat}(hn:d.tag.length<=90)(hw:bn d<=100)(hk:k<=3):(fB c cp d a k).tg.length<=270/\(fB c cp d a k).fn.length<=270/\(fB c cp d a k).nx.length<=54000:=by
 obtain⟨k1,k2,k3⟩:=Ua c cp d a k;have m1:=oU hk hn;have m3:=oU hn (show 2*bn d<=200 by omega);have m4:=oU hk m3;omega
def QB(c:List UInt8)(cp:Nat)(d:aL)(a:Nat):aL×Nat:=(⟨qw d 256,d.width*2,(fB c cp d a cp).nx,(fB c cp d a cp).tg,(fB c cp d a cp).fn⟩,(fB c cp d a cp).a)
def uE(c:List UInt8)(d:aL)(a:Nat):aL×Nat:=QB c (2+(ae c 2 a).1).toNat d (ae c 2 a).2
structure lF(p:Nat)(w:zi)(B R g X:Nat)(C:Array zh)(W:zi)(width:Int)(v:Nat->zh)(ls:Nat->List Int):Prop where
 vL:eZ p w B R g W width v ls
 arg:W.heap[X]?=zb (zf C 25 (0,0))
 ne:X≠g/\X≠p
section
variable {p:Nat} {w W W':zi} {B R g X:Nat} {C:Array zh} {width:Int} {v:Nat->zh} {ls:Nat->List Int}
theorem lF.kp(h:lF p w B R g X C W width v ls)(hk:aE p W W'):lF p w B R g X C W' width v ls:=⟨h.vL.kp hk,(hk.block X (ay h.arg) h.ne.2).trans h.arg,h.ne⟩
theorem lF.field(h:lF p w B R g X C W width v ls){i:Nat}(hi:i<4)(off:Nat)(ho:tU i=off){u:zh}{ys:List Int}(hF:aI B 4 W' (upd v i u) (bG ls i ys))(hg:W.grownBy W' (v i).ownBlock):
  W'.heap[g]?=zb (zf (iF width v) 25 (0,0))/\lF p w B R g X C (W'.setCell ⟨g,off,za⟩ u) width (upd v i u) (bG ls i ys):=by
 have:=h.vL.field hi off ho hF hg;exact⟨this.1,this.2,(bh _ _ _ _ (show X≠g from h.ne.1)).trans (h.vL.au.others (i:=i) (by omega) hg (by decide) h.arg),h.ne⟩
theorem lF.to{a b c d:List Int}(h:lF p w B R g X C W width v ls)(h0:ls 0=a)(h1:ls 1=b)(h2:ls 2=c)(h3:ls 3=d):lF p w B R g X C W width v (L4 a b c d):=⟨h.vL.to h0 h1 h2 h3,h.arg,h.ne⟩
theorem lF.rY(h:lF p w B R g X C W width v ls){c:List UInt8}{a:Nat}{r:Int}(hd:aR W p c a r){i:Nat}(hi:i<4)(hg:W.grownBy W' (v i).ownBlock)(off:Nat)(u:zh):aR (W'.setCell ⟨g,off,za⟩ u) p c a r:=h.vL.rY hd hi hg off u
theorem lF.au(h:lF p w B R g X C W width v ls):aI B 4 W v ls:=h.vL.au
theorem lF.bw(h:lF p w B R g X C W width v ls):W.heap[R]?=zb (zf bI 25 (0,0)):=h.vL.bw
theorem lF.box(h:lF p w B R g X C W width v ls):W.heap[g]?=zb (zf (iF width v) 25 (0,0)):=h.vL.box
end
theorem dD.cells{p:Nat}{w:zi}{ao:Option Addr}{n cap:Nat}{xs:List Int}(h:dD (p+1) w (.slice ao n cap) xs)(h0:0<xs.length):∃b o,ao=zb ⟨b,o,za⟩/\∀W,aE p w W->∀k,k<xs.length->W.cell? ⟨b,o+k,za⟩=zb (zd .i64 (xs.getD k 0)):=by
 obtain⟨ao',cap',e,_,hc⟩:=h;injection e with e1 _ _
 subst e1;obtain⟨b,o,e2,fX,hlt,hk⟩:=hc h0;refine⟨b,o,e2,λW hW k hl=>?_⟩;rw[<-hk k hl];exact World.cell?_of_block (hW.block b hlt (by omega))
theorem zpJ(k:Int):prog.built 25 [(1,zd .i64 k)]=zb #[zc za 0 0,zd .i64 k,zc za 0 0,zc za 0 0,zc za 0 0]:=by kernel_rfl
def zx2(t:TypeId)(parts:Array (Nat×zh)):Sem zh:=Instr.build t parts
theorem ziR(parts:Array (Nat×zh)):Instr.build 25 parts=zx2 25 parts:=rfl
theorem zrw(k:Int)(W:zi):(zx2 25 #[(1,zd .i64 k)]).run prog W=.ok (zj #[zc za 0 0,zd .i64 k,zc za 0 0,zc za 0 0,zc za 0 0]) W:=run_build W _ _ _ (zpJ k)
attribute [local go_sem ↓] ziR
theorem zkO(w:zi)(p:Nat)(c:List UInt8)(a:Nat)(r:Int)(h:aR w p c a r)(cv nv tv ev:zh)(d:aL)(hs:dP (p+1) w cv nv tv ev d)(hf:eI d)(hn:d.tag.length<=90)(hw:bn d<=100):
  Calls prog 43 #[zg (zb ⟨p,0,za⟩),zj #[cv,zd .i64 d.width,nv,tv,ev]] w (Ae p w c (uE c d a).1 (uE c d a).2 r):=by
 have fF:prog.follows .mixedOrders=true:=by kernel_rfl
 have du:=h.lt;have hwd:=hf.wd;obtain⟨⟨ca,cc,rfl,cm,cx⟩,⟨na,nc,rfl,nm,nx⟩,⟨ta,tc,rfl,tm,tx⟩,⟨ea,ec,rfl,em,ex⟩⟩:=hs;have HCx:=ar (show dD (p+1) w (.slice ca d.ai.length cc) d.ai from⟨ca,cc,rfl,cm,cx⟩);have U1:=ar (show dD (p+1) w (.slice na d.next.length nc) d.next from⟨na,nc,rfl,nm,nx⟩);have HTx:=ar (show dD (p+1) w (.slice ta d.tag.length tc) d.tag from⟨ta,tc,rfl,tm,tx⟩);have HEx:=ar (show dD (p+1) w (.slice ea d.fin.length ec) d.fin from⟨ea,ec,rfl,em,ex⟩);clear cx nx tx ex cm nm tm em;obtain⟨nC,RZ⟩:∃n,d.ai.length=n:=⟨_,rfl⟩;obtain⟨nN,Kc⟩:∃n,d.next.length=n:=⟨_,rfl⟩;obtain⟨nT,R7⟩:∃n,d.tag.length=n:=⟨_,rfl⟩;obtain⟨nE,R4⟩:∃n,d.fin.length=n:=⟨_,rfl⟩;obtain⟨D,hD⟩:∃D,bn d=D:=⟨_,rfl⟩;have HnC:=ar RZ;have HnN:=ar Kc;have xo:=ar R7;have HnE:=ar R4;have I8:=ar hD;have HF:=ar hf;rw[hD]at hwd hw;obtain⟨YM,zD4,zD5⟩:=hwd;rw[R7]at hn;rw[YM,RZ,Kc,R7,R4];have HW:=ar YM;clear RZ Kc R7 R4 hD hf YM;obtain⟨W0,aw⟩:∃W0,(w.alloc (zf #[.slice ca nC cc,zd .i64 (D:Int),.slice na nN nc,.slice ta nT tc,.slice ea nE ec] 25)).alloc (zf bI 25)=W0:=⟨_,rfl⟩;have aD:zk w.heap.size w W0:=by rw[<-aw];exact(ax).alloc (by simp) _
 have x0:W0.heap[w.heap.size]?=zb (zf #[.slice ca nC cc,zd .i64 (D:Int),.slice na nN nc,.slice ta nT tc,.slice ea nE ec] 25 (0,0)):=by
  rw[<-aw];exact(Below.heap_alloc _ _ _ (by simp)).trans (aJ w _)
 have z0:W0.heap[w.heap.size+1]?=zb (zf bI 25 (0,0)):=by
  rw[<-aw];have:=aJ (w.alloc (zf #[.slice ca nC cc,zd .i64 (D:Int),.slice na nN nc,.slice ta nT tc,.slice ea nE ec] 25)) (zf bI 25)
  simpa using this
 have HP:=ar λW a hW (n:Int) (hn:n<=65536)=>rK W p c a r hW n hn
 have h2:=HP.out W0 a (h.keep λk hk=>aD.block k (by omega)) 2 (by omega);have eE:=jL h.le 2;have HG:ze (uE c d a=QB c (2+(ae c 2 a).1).toNat d (ae c 2 a).2):=rfl;obtain⟨x2,y2,lN⟩:∃x y,ae c 2 a=(x,y):=⟨_,_,rfl⟩;rw[lN]at h2 eE HG;obtain⟨cp,iJ⟩:∃N:Nat,2+x2=(N:Int):=⟨(2+x2).toNat,by have:=eE.2.1;simp only at this;omega⟩;have zDc:cp<=3:=by have:=eE.2.2;simp only at this;omega
 have zDd:2<=cp:=by have:=eE.2.1;simp only at this;omega
 have HG:ze (uE c d a=QB c cp d y2):=by rw[iJ]at HG;exact HG.out
 unfold bI at aw;obtain⟨q0,q1,q2,q3,q4⟩:=dM x0;clear eE
 go_enter func43,ntmps43
 go_wp2_with fail
 refine h2.mono ?_;rintro e w1 ⟨rfl,eM,bO⟩;have k1:=(aE.of (p:=p) aD).trans bO;have X1:=(bO.block _ (ay x0) (by omega)).trans x0;have Z1:=(bO.block _ (ay z0) (by omega)).trans z0;have r8:=ay Z1;obtain⟨s0,s1,s2,s3,s4⟩:=dM X1;have qD:=zrw ((D:Int)*2);clear h2 aD bO aw x0 z0 q0 q1 q2 q3 q4;obtain⟨W2,fe⟩:∃W2,w1.alloc (zf #[zc za 0 0,zd .i64 ((D:Int)*2),zc za 0 0,zc za 0 0,zc za 0 0] 25)=W2:=⟨_,rfl⟩;have aB:zk w1.heap.size w1 W2:=by rw[<-fe];exact ax
 have g2:W2.heap[w1.heap.size]?=zb (zf #[zc za 0 0,zd .i64 ((D:Int)*2),zc za 0 0,zc za 0 0,zc za 0 0] 25 (0,0)):=by rw[<-fe];exact aJ _ _
 have hI:lF p w (w.heap.size+1) (w.heap.size+1) w1.heap.size w.heap.size #[.slice ca nC cc,zd .i64 (D:Int),.slice na nN nc,.slice ta nT tc,.slice ea nE ec] W2 ((D:Int)*2) (λ_=>zc za 0 0) (L4 (qw d 0) [] [] []):=
  ⟨⟨zp9 (aI.nil _ _ _) rfl rfl rfl rfl,g2,aT Z1 aB,k1.trans (.of aB),by omega⟩,aT X1 aB,by omega⟩
 have HI:=ar hI;have HD:=ar (eM.keep (w':=W2) λk hk=>aB.block k (by have:=eM.lt;omega));have lI:=ar fe;clear hI eM k1 X1 Z1 aB g2 fe;go_wp2;rw[lI.out];clear s0 s1 s2 s3 s4 qD;have Ef:w.heap.size+1<w1.heap.size:=r8;clear r8 lI;generalize w1.heap.size=G at *
 go_loopw [8] (λi wr=>∃k:Nat,k<=256/\i=zd .i64 k/\∃v,lF p w (w.heap.size+1) (w.heap.size+1) G w.heap.size #[.slice ca nC cc,zd .i64 (D:Int),.slice na nN nc,.slice ta nT tc,.slice ea nE ec] wr ((D:Int)*2) v (L4 (qw d k) [] [] [])/\aR wr p c y2 r) (λi _=>256-(intOf i).toNat)
 case atStart=>exact⟨0,by omega,rfl,_,HI.out,HD.out⟩
 case round=>
  clear HI HD;obtain⟨k,hk,rfl,v,hS,hC⟩:=hrel;have HS:=ar hS;have HC:=ar hC;have hsz:=ay HS.out.bw;clear hS hC
  by_cases hlt:k<256
  ·have Cm:(k:Int)<256:=by omega
   obtain⟨⟨a0,c0⟩,iI⟩:=dQ (HS.out.au.own 0 (by omega));rw[show L4 (qw d k) [] [] [] 0=qw d k from rfl,TW]at iI;have HV:ze (v 0=.slice a0 k c0):=iI;have x0:∀s:fJ p wr,s.W.cell? ⟨G,0,za⟩=zb (.slice a0 k c0):=λs=>by rw[<-HV.out];exact(cE (HS.out.kp s.h).box).1
   have aV:=HF.out.yX hlt;obtain⟨cb,co,hca,mP⟩:=HCx.out.cells (by rw[HF.out.cl];omega);have x1:∀s:fJ p wr,s.W.cell? ⟨w.heap.size,0,za⟩=zb (.slice ca nC cc):=λs=>(dM (HS.out.kp s.h).arg).1
   subst hca;have x2:∀s:fJ p wr,s.W.cell? ⟨cb,co+k,za⟩=zb (zd .i64 (kw d k:Int)):=λs=>by rw[mP _ ((HS.out.kp s.h).vL.kept) k (by rw[HF.out.cl];omega),aV.1]
   have RZ:(k:Int)<(nC:Int):=by have h1:=HnC.out;have h2:=HF.out.cl;omega
   have i0:(0:Int)<=(k:Int):=by omega
   have hK:ze (qw d (k+1)=qw d k++[(kw d k:Int)*2+((k%2:Nat):Int)]):=by show _=_;rw[zp0,aV.1]
   have hx:kw d k<256:=by have:=aV.2;have:=I8.out;omega
   generalize kw d k=x at *;have Si:(k:Int)%2=((k%2:Nat):Int):=by omega
   have zB7:k%2<2:=Nat.mod_lt _ (by omega);generalize k%2=y at *;clear iI aV mP
   go_upto_region 7 with fail
   refine tY [0,1,2,3,4,5,6,7,8,9,10] [11,12,13,14] 12 (λw'=>∃s:fJ p wr,w'=s.W) (λw'=>w'=World.drew wr) fF ⟨⟨World.drew wr,(aE.refl _ _).drew⟩,rfl⟩ rfl (by kernel_rfl) ?_;intro os bN;simp only[jw,jx,jA,jy]at bN;subst bN
   change wpQuiet _ _ _ _ [_,_,_,_,_,_,_,_,_,_,_] _
   repeat (go_big_quiet_step (fail))
   refine wpQuiet_nil ?_;rintro w' rfl r' dC;simp only[jw,jx,jA,jy,rQ]at dC;subst dC;clear x0 x1 x2;refine mj rfl (λK5 bM=>?_)
   first|go_big_move|go_big_op
   refine bM _ _ (λ_=>⟨⟨_,(aE.refl _ _).drew.alloc _⟩,rfl⟩) ?_;clear bM K5;have dm:=ar (HS.out.kp (W':=wr.drew) (aE.refl _ _).drew);have PE:=ar (HC.out.keep (w':=wr.drew) λ_ _=>rfl);have hsz:w.heap.size+1<wr.drew.heap.size:=hsz;refine tZ (by simp) (λ_ _ h=>h) ?_
   change wpList _ _ _ [_,_,_] _ _
   go_wp2_with (at_builtin;refine kJ dm.out.au _ rfl rfl (.tmp 30) (.tmp 40) rfl 0 (by omega) (qw d k) rfl k (TW _ _) (by exact HV.out.symm) _ rfl (by omega) hsz ?_;intro g2 d2 V2 hF2 dE;obtain⟨dr,J2⟩:=dm.out.field (i:=0) (by omega) 0 rfl hF2 dE;have pG:=ar (dm.out.rY PE.out (i:=0) (by omega) dE 0 (zc (zb ⟨g2,0,za⟩) (k+1) d2));have qb:=(cE dr).1;rw[HV.out]at qb;have oA:=aM _ _ 0 _ _ dr;have kg:=ar J2;clear hF2 dE dr J2)
   rw[qc];go_wp2
   go_roundw
   case rel=>exact⟨k+1,by omega,by go_num,_,by rw[hK.out];exact kg.out.to rfl rfl rfl rfl,pG.out⟩
   case measure=>simp[intOf];omega
  ·have lK:k=256:=by omega
   have fX:¬(k:Int)<256:=by omega
   rw[lK]at HS;clear hk hlt lK;have eJ:ze (lF p w (w.heap.size+1) (w.heap.size+1) G w.heap.size #[.slice ca nC cc,zd .i64 (D:Int),.slice na nN nc,.slice ta nT tc,.slice ea nE ec] wr ((D:Int)*2) v (L4 (qw d 256) (fB c cp d y2 0).nx (fB c cp d y2 0).tg (fB c cp d y2 0).fn)):=HS.out;have Pz:ze (aR wr p c (fB c cp d y2 0).a r):=HC.out;have vt:ze ((qw d 256).length=256):=TW d 256;have vu:ze (uE c d a=(⟨qw d 256,d.width*2,(fB c cp d y2 cp).nx,(fB c cp d y2 cp).tg,(fB c cp d y2 cp).fn⟩,(fB c cp d y2 cp).a)):=HG.out;generalize qw d 256=cl at *;clear HS HC hsz HG;go_wp2
   go_loopw [9] (λi wr=>∃k:Nat,k<=cp/\i=zd .i64 k/\∃v,lF p w (w.heap.size+1) (w.heap.size+1) G w.heap.size #[.slice ca nC cc,zd .i64 (D:Int),.slice na nN nc,.slice ta nT tc,.slice ea nE ec] wr ((D:Int)*2) v (L4 cl (fB c cp d y2 k).nx (fB c cp d y2 k).tg (fB c cp d y2 k).fn)/\aR wr p c (fB c cp d y2 k).a r) (λi _=>cp-(intOf i).toNat)
   case atStart=>exact⟨0,by omega,rfl,_,eJ.out,Pz.out⟩
   case round=>
    clear eJ Pz v;obtain⟨k,hk,rfl,v,hS,hC⟩:=hrel;have HS:=ar hS;have HC:=ar hC;clear hS hC
    by_cases hlt:k<cp
    ·have Cm:(k:Int)<(cp:Int):=by omega
     have DI:ze (∀s,s<=nT->(kQ c cp d (fB c cp d y2 k) s).tg.length<=270/\(kQ c cp d (fB c cp d y2 k) s).fn.length<=270/\(kQ c cp d (fB c cp d y2 k) s).nx.length<=54000):=λs hs=>zss (by rw[xo.out];exact hn) (by rw[I8.out];exact hw) (by omega) (by rw[xo.out];exact hs)
     have mG:ze (fB c cp d y2 (k+1)=kQ c cp d (fB c cp d y2 k) nT):=by show _=_;rw[fB,xo.out]
     generalize fB c cp d y2 k=st at *;go_wp2
     go_loopw [10] (λi wr=>∃s:Nat,s<=nT/\i=zd .i64 s/\∃v,lF p w (w.heap.size+1) (w.heap.size+1) G w.heap.size #[.slice ca nC cc,zd .i64 (D:Int),.slice na nN nc,.slice ta nT tc,.slice ea nE ec] wr ((D:Int)*2) v (L4 cl (kQ c cp d st s).nx (kQ c cp d st s).tg (kQ c cp d st s).fn)/\aR wr p c (kQ c cp d st s).a r) (λi _=>nT-(intOf i).toNat)
     case atStart=>exact⟨0,by omega,rfl,_,HS.out,HC.out⟩
     case round=>
      clear HS HC v;obtain⟨s,hs,rfl,v,hS,hC⟩:=hrel;have HS:=ar hS;have HC:=ar hC;clear hS hC
      by_cases Nu:s<nT
      ·have zBT:(s:Int)<(nT:Int):=by omega
       have Ma:ze (kQ c cp d st (s+1)=QA c cp d (kQ c cp d st s) s):=rfl;have Mg:=ar (DI.out s hs);generalize kQ c cp d st s=su at *;obtain⟨nx,tg,fn,ak⟩:=su;replace HS:ze (lF p w (w.heap.size+1) (w.heap.size+1) G w.heap.size #[.slice ca nC cc,zd .i64 (D:Int),.slice na nN nc,.slice ta nT tc,.slice ea nE ec] wr ((D:Int)*2) v (L4 cl nx tg fn)):=HS.out;replace HC:ze (aR wr p c ak r):=HC.out;replace Mg:ze (tg.length<=270/\fn.length<=270/\nx.length<=54000):=Mg.out;go_wp2
       go_loopw [11] (λi wr=>∃j:Nat,j<=D/\i=zd .i64 j/\∃v,lF p w (w.heap.size+1) (w.heap.size+1) G w.heap.size #[.slice ca nC cc,zd .i64 (D:Int),.slice na nN nc,.slice ta nT tc,.slice ea nE ec] wr ((D:Int)*2) v (L4 cl (mM c cp d s nx ak j).1 tg fn)/\aR wr p c (mM c cp d s nx ak j).2 r) (λi _=>D-(intOf i).toNat)
       case atStart=>exact⟨0,by omega,rfl,v,HS.out,HC.out⟩
       case round=>
        clear HS HC v;obtain⟨j,hj,rfl,v,hS,hC⟩:=hrel;have HS:=ar hS;have HC:=ar hC;have q1:wr.cell? ⟨w.heap.size,1,za⟩=zb (zd .i64 (D:Int)):=(dM hS.arg).2.1;have q2:wr.cell? ⟨w.heap.size,2,za⟩=zb (.slice na nN nc):=(dM hS.arg).2.2.1;clear hS hC
        by_cases GR:j<D
        ·have zza:(j:Int)<(D:Int):=by omega
         have NQ:s<d.tag.length:=by rw[xo.out];exact Nu
         have XV:j<bn d:=by rw[I8.out];exact GR
         have iw:=HF.out.nx NQ XV;have jp:=HF.out.AZ NQ XV;rw[I8.out]at iw jp;obtain⟨nb,no,hna,sj⟩:=U1.out.cells (by omega);subst hna;have q3:wr.cell? ⟨nb,no+(s*D+j),za⟩=zb (zd .i64 (fj d s j:Int)):=by rw[sj wr HS.out.vL.kept _ jp,iw.1]
         rw[HnN.out]at jp;obtain⟨P,MR,fO,hP3,hP4,hP5,hP6⟩:=TC (s:=s) (wd:=D) (c:=j) (L:=nN) (by omega) (by omega) jp;have Cn:=zmD c cp d s nx ak j;have vw:ze (mM c cp d s nx ak (j+1)=((mM c cp d s nx ak j).1++[(fj d s j:Int)+(ae c cp (mM c cp d s nx ak j).2).1*(nT:Int)]++[(fj d s j:Int)+(ae c cp (ae c cp (mM c cp d s nx ak j).2).2).1*(nT:Int)],(ae c cp (ae c cp (mM c cp d s nx ak j).2).2).2)):=by show _=_;rw[mM,xo.out]
         have hz:fj d s j<90:=by have:=iw.2;rw[xo.out]at this;omega
         rw[<-hP6]at q3;generalize fj d s j=z at *;generalize mM c cp d s nx ak j=sv at *;obtain⟨xs,aj⟩:=sv;replace Cn:xs.length=nx.length+2*j:=Cn;have la:=jL HC.out.le cp;have pa:=HP.out wr _ HC.out cp (by omega);obtain⟨xa,ya,wu⟩:∃x y,ae c cp aj=(x,y):=⟨_,_,rfl⟩;simp only[wu]at la pa vw;have lb:=jL la.1 cp;have pb:=λW hW=>HP.out W ya hW cp (by omega)
         obtain⟨xb,yb,EP⟩:∃x y,ae c cp ya=(x,y):=⟨_,_,rfl⟩;simp only[EP]at lb pb vw;have Xn:=la.2.1;have Xo:xa<3:=by have:=la.2.2;omega
         have aD:=lb.2.1;have aO:xb<3:=by have:=lb.2.2;omega
         obtain⟨Qa,hQa,zC2,zC3⟩:∃Q,xa*(nT:Int)=Q/\0<=Q/\Q<=270:=⟨_,rfl,Bm Xn (by omega),by have:=wU (show xa<=3 by omega) (show (nT:Int)<=90 by omega) (by omega) (by omega);omega⟩;obtain⟨Qb,hQb,zC4,zC5⟩:∃Q,xb*(nT:Int)=Q/\0<=Q/\Q<=270:=⟨_,rfl,Bm aD (by omega),by have:=wU (show xb<=3 by omega) (show (nT:Int)<=90 by omega) (by omega) (by omega);omega⟩;rw[hQa,hQb]at vw;obtain⟨⟨a1,c1⟩,ev⟩:=dQ (HS.out.au.own 1 (by omega));obtain⟨m,hm⟩:∃m,xs.length=m:=⟨_,rfl⟩;rw[show L4 cl xs tg fn 1=xs from rfl,hm]at ev;have HV:ze (v 1=.slice a1 m c1):=ev;have HM:=ar hm;have fZ:m<=60000:=by have:=Mg.out.2.2;omega
         clear ev hm Cn iw jp wu EP la lb sj hP6 NQ XV
         go_wp2_with fail
         refine pa.mono ?_;rintro e w3 ⟨rfl,eU,bQ⟩
         go_wp2_with fail
         refine(pb w3 eU).mono ?_;rintro e w4 ⟨rfl,pd,jf⟩;have kO:=ar (HS.out.kp (bQ.trans jf));have hsz:=ay kO.out.bw;have e2:w4.cell? ⟨G,2,za⟩=zb (.slice a1 m c1):=by rw[<-HV.out];exact(cE kO.out.box).2.2.1
         clear pa pb eU bQ jf HS q1 q2 q3
         go_upto_region 21 with (at_builtin;refine kJ kO.out.au _ rfl rfl (.tmp 76) (.tmp 82) rfl 1 (by omega) xs rfl m HM.out (by exact HV.out.symm) _ rfl (by omega) hsz ?_;intro g2 d2 V2 hF2 dE;obtain⟨dr,J2⟩:=kO.out.field (i:=1) (by omega) 2 rfl hF2 dE;have pG:=ar (kO.out.rY pd (i:=1) (by omega) dE 2 (zc (zb ⟨g2,0,za⟩) (m+1) d2));have qb:=(cE dr).2.2.1;rw[HV.out]at qb;have oA:=aM _ _ 2 _ _ dr;have kg:=ar J2;clear hF2 dE dr J2)
         generalize hU:V2.setCell ⟨G,2,za⟩ (zc (zb ⟨g2,0,za⟩) (m+1) d2)=U2 at *;have Ve:ze (upd v 1 (zc (zb ⟨g2,0,za⟩) (m+1) d2) 1=zc (zb ⟨g2,0,za⟩) (m+1) d2):=rfl;have HMb:ze ((xs++[(z:Int)+Qa]).length=m+1):=by show _=_;rw[aQ,HM.out];rfl
         have hsz:=ay kg.out.bw;have e3:=(cE kg.out.box).2.2.1;rw[Ve.out]at e3;have Vc:=ar kg.out;have HDb:=ar pG.out;clear qb oA hU e2 kg pG
         go_wp2_with (at_builtin;refine kJ Vc.out.au _ rfl rfl (.tmp 86) (.tmp 92) rfl 1 (by omega) (xs++[(z:Int)+Qa]) rfl (m+1) HMb.out (by exact Ve.out.symm) _ rfl (by omega) hsz ?_;intro g5 d5 V5 hF2 kV;obtain⟨dr,J2⟩:=Vc.out.field (i:=1) (by omega) 2 rfl hF2 kV;have BN:=ar (Vc.out.rY HDb.out (i:=1) (by omega) kV 2 (zc (zb ⟨g5,0,za⟩) ((m+1)+1) d5));have CK:=(cE dr).2.2.1;rw[Ve.out]at CK;have D8:=aM _ _ 2 _ _ dr;have vv:=ar J2;clear hF2 kV dr J2)
         go_roundw
         case rel=>exact⟨j+1,by omega,by go_num,_,by rw[vw.out];exact vv.out.to rfl rfl rfl rfl,by rw[vw.out];exact BN.out⟩
         case measure=>simp[intOf];omega
        ·have hjD:j=D:=by omega
         subst hjD;have HNT:ze (kQ c cp d st (s+1)=⟨(mM c cp d s nx ak j).1,tg++[d.tag.getD s 0],fn++[d.fin.getD s 0],(mM c cp d s nx ak j).2⟩):=by show _=_;rw[Ma.out,QA,I8.out]
         generalize mM c cp d s nx ak j=sv at *;obtain⟨xs,aj⟩:=sv;replace HS:ze (lF p w (w.heap.size+1) (w.heap.size+1) G w.heap.size #[.slice ca nC cc,zd .i64 (j:Int),.slice na nN nc,.slice ta nT tc,.slice ea nE ec] wr ((j:Int)*2) v (L4 cl xs tg fn)):=HS.out;replace HC:ze (aR wr p c aj r):=HC.out;obtain⟨tb,wD,YF,htc⟩:=HTx.out.cells (by rw[xo.out];omega);obtain⟨eb,eo,hea,hec⟩:=HEx.out.cells (by rw[HF.out.fl,xo.out];omega);subst YF hea;have R4:(s:Int)<(nE:Int):=by have h1:=HnE.out;have h2:=HF.out.fl;have h3:=xo.out;omega
         have i0:(0:Int)<=(s:Int):=by omega
         have HT:ze (∀W,aE p w W->W.cell? ⟨tb,wD+s,za⟩=zb (zd .i64 (d.tag.getD s 0))):=λW hW=>htc W hW s (by rw[xo.out];exact Nu)
         have HE:ze (∀W,aE p w W->W.cell? ⟨eb,eo+s,za⟩=zb (zd .i64 (d.fin.getD s 0))):=λW hW=>hec W hW s (by rw[HF.out.fl,xo.out];exact Nu)
         generalize d.tag.getD s 0=tv at *;generalize d.fin.getD s 0=fv at *;obtain⟨⟨a2,c2⟩,eP⟩:=dQ (HS.out.au.own 2 (by omega));obtain⟨m2,fZ⟩:∃m,tg.length=m:=⟨_,rfl⟩;rw[show L4 cl xs tg fn 2=tg from rfl,fZ]at eP;obtain⟨⟨a3,c3⟩,fi⟩:=dQ (HS.out.au.own 3 (by omega));obtain⟨m3,lL⟩:∃m,fn.length=m:=⟨_,rfl⟩;rw[show L4 cl xs tg fn 3=fn from rfl,lL]at fi;have nA:ze (v 2=.slice a2 m2 c2):=eP;have uv:ze (v 3=.slice a3 m3 c3):=fi;have qn:=ar fZ;have PQ:=ar lL;have zBU:m2<=270:=by have:=Mg.out.1;omega
         have zBV:m3<=270:=by have:=Mg.out.2.1;omega
         clear eP fi fZ lL htc hec Ma q2;have x0:∀s:fJ p wr,s.W.cell? ⟨G,3,za⟩=zb (.slice a2 m2 c2):=λs=>by rw[<-nA.out];exact(cE (HS.out.kp s.h).box).2.2.2.1
         have x1:∀s:fJ p wr,s.W.cell? ⟨w.heap.size,3,za⟩=zb (zc (zb ⟨tb,wD,za⟩) nT tc):=λs=>(dM (HS.out.kp s.h).arg).2.2.2.1
         have x2:∀s:fJ p wr,s.W.cell? ⟨tb,wD+_,za⟩=zb (zd .i64 tv):=λs=>HT.out _ (HS.out.kp s.h).vL.kept
         go_upto_region 22 with fail
         refine tY [0,1,2,3,4,5,6] [7,8,9,10] 8 (λw'=>∃s:fJ p wr,w'=s.W) (λw'=>w'=World.drew wr) fF ⟨⟨World.drew wr,(aE.refl _ _).drew⟩,rfl⟩ rfl (by kernel_rfl) ?_;intro os bN;simp only[jw,jx,jA,jy]at bN;subst bN
         change wpQuiet _ _ _ _ [_,_,_,_,_,_,_] _
         repeat (go_big_quiet_step (fail))
         refine wpQuiet_nil ?_;rintro w' rfl r' dC;simp only[jw,jx,jA,jy,rQ]at dC;subst dC;clear x0 x1 x2;refine mj rfl (λK5 bM=>?_)
         first|go_big_move|go_big_op
         refine bM _ _ (λ_=>⟨⟨_,(aE.refl _ _).drew.alloc _⟩,rfl⟩) ?_;clear bM K5;have dm:=ar (HS.out.kp (W':=wr.drew) (aE.refl _ _).drew);have PE:=ar (HC.out.keep (w':=wr.drew) λ_ _=>rfl);have hsz:w.heap.size+1<wr.drew.heap.size:=ay dm.out.bw;clear HS HC;refine tZ (by simp) (λ_ _ h=>h) ?_
         change wpList _ _ _ [_,_,_] _ _
         go_wp2_with (at_builtin;refine kJ dm.out.au _ rfl rfl (.tmp 96) (.tmp 102) rfl 2 (by omega) tg rfl m2 qn.out (by exact nA.out.symm) _ rfl (by omega) hsz ?_;intro g2 d2 V2 hF2 dE;obtain⟨dr,J2⟩:=dm.out.field (i:=2) (by omega) 3 rfl hF2 dE;have pG:=ar (dm.out.rY PE.out (i:=2) (by omega) dE 3 (zc (zb ⟨g2,0,za⟩) (m2+1) d2));have qb:=(cE dr).2.2.2.1;rw[nA.out]at qb;have oA:=aM _ _ 3 _ _ dr;have kg:=ar J2;clear hF2 dE dr J2)
         rw[qc];have er:=ar (kg.out.to (a:=cl) (b:=xs) (c:=tg++[tv]) (d:=fn) rfl rfl rfl rfl);have mD:=ar pG.out;have th:ze (upd v 2 (zc (zb ⟨g2,0,za⟩) (m2+1) d2) 3=.slice a3 m3 c3):=uv.out;generalize upd v 2 (zc (zb ⟨g2,0,za⟩) (m2+1) d2)=v9 at *;generalize hU:V2.setCell ⟨G,3,za⟩ (zc (zb ⟨g2,0,za⟩) (m2+1) d2)=U at *;clear kg pG qb oA dm PE hsz hU;have x0:∀s:fJ p U,s.W.cell? ⟨G,4,za⟩=zb (.slice a3 m3 c3):=λs=>by rw[<-th.out];exact(cE (er.out.kp s.h).box).2.2.2.2
         have x1:∀s:fJ p U,s.W.cell? ⟨w.heap.size,4,za⟩=zb (zc (zb ⟨eb,eo,za⟩) nE ec):=λs=>(dM (er.out.kp s.h).arg).2.2.2.2
         have x2:∀s:fJ p U,s.W.cell? ⟨eb,eo+_,za⟩=zb (zd .i64 fv):=λs=>HE.out _ (er.out.kp s.h).vL.kept
         go_upto_region 23 with fail
         refine tY [0,1,2,3,4,5,6] [7,8,9,10] 8 (λw'=>∃s:fJ p U,w'=s.W) (λw'=>w'=World.drew U) fF ⟨⟨World.drew U,(aE.refl _ _).drew⟩,rfl⟩ rfl (by kernel_rfl) ?_;intro os bN;simp only[jw,jx,jA,jy]at bN;subst bN
         change wpQuiet _ _ _ _ [_,_,_,_,_,_,_] _
         repeat (go_big_quiet_step (fail))
         refine wpQuiet_nil ?_;rintro w' rfl r' dC;simp only[jw,jx,jA,jy,rQ]at dC;subst dC;clear x0 x1 x2;refine mj rfl (λK5 bM=>?_)
         first|go_big_move|go_big_op
         refine bM _ _ (λ_=>⟨⟨_,(aE.refl _ _).drew.alloc _⟩,rfl⟩) ?_;clear bM K5;have l8:=ar (er.out.kp (W':=U.drew) (aE.refl _ _).drew);have HCa:=ar (mD.out.keep (w':=U.drew) λ_ _=>rfl);have hsz:w.heap.size+1<U.drew.heap.size:=ay l8.out.bw;clear er mD;refine tZ (by simp) (λ_ _ h=>h) ?_
         change wpList _ _ _ [_,_,_] _ _
         go_wp2_with (at_builtin;refine kJ l8.out.au _ rfl rfl (.tmp 106) (.tmp 112) rfl 3 (by omega) fn rfl m3 PQ.out (by exact th.out.symm) _ rfl (by omega) hsz ?_;intro g5 d5 V5 hF2 kV;obtain⟨dr,J2⟩:=l8.out.field (i:=3) (by omega) 4 rfl hF2 kV;have BN:=ar (l8.out.rY HCa.out (i:=3) (by omega) kV 4 (zc (zb ⟨g5,0,za⟩) (m3+1) d5));have CK:=(cE dr).2.2.2.2;rw[th.out]at CK;have D8:=aM _ _ 4 _ _ dr;have vv:=ar J2;clear hF2 kV dr J2)
         rw[qc];go_wp2
         go_roundw
         case rel=>exact⟨s+1,by omega,by go_num,_,by rw[HNT.out];exact vv.out.to rfl rfl rfl rfl,by rw[HNT.out];exact BN.out⟩
         case measure=>simp[intOf];omega
      ·have NQ:s=nT:=by omega
       subst NQ;rw[<-mG.out]at HS HC;go_wp2
       go_roundw
       case rel=>exact⟨k+1,by omega,by go_num,_,HS.out,HC.out⟩
       case measure=>simp[intOf];omega
    ·have vX:k=cp:=by omega
     subst vX;obtain⟨le1,le2,le3⟩:=ztC (c:=c) (cp:=k) (d:=d) (a:=y2) (k:=k) (by rw[xo.out];exact hn) (by rw[I8.out];exact hw) (by omega);have te:=ar HS.out.vL;obtain⟨⟨a0,c0⟩,iI⟩:=dQ (te.out.au.own 0 (by omega));obtain⟨⟨a1,c1⟩,jY⟩:=dQ (te.out.au.own 1 (by omega));obtain⟨⟨a2,c2⟩,eP⟩:=dQ (te.out.au.own 2 (by omega));obtain⟨⟨a3,c3⟩,fi⟩:=dQ (te.out.au.own 3 (by omega));have HE:=ar (te.out.done HC.out (by
      intro i hi
      match i,hi with
      |0,_=>show cl.length<=_;have h0:=vt.out;omega
      |1,_=>show (fB c k d y2 k).nx.length<=_;omega
      |2,_=>show (fB c k d y2 k).tg.length<=_;omega
      |3,_=>show (fB c k d y2 k).fn.length<=_;omega))
     obtain⟨b0,b1,b2,b3,b4⟩:=cE te.out.box;have dK:=te.out.bw;have r0:=aM _ _ 0 _ _ dK;have r1:=aM _ _ 1 _ _ dK;have r2:=aM _ _ 2 _ _ dK;have r3:=aM _ _ 3 _ _ dK;have r4:=aM _ _ 4 _ _ dK;unfold bI at dK;obtain⟨z0,z1,z2,z3,z4⟩:=dM dK;simp only at iI jY eP fi;rw[iI,jY,eP,fi]at HE;rw[iI]at b0;rw[jY]at b2;rw[eP]at b3;rw[fi]at b4;clear dK iI jY eP fi
     skip
     go_wp2;refine aW (v:=_) (by simp[results,results43,go_sem,z0,z1,z2,z3,z4];rfl) rfl ?_;rw[vu.out,HW.out];exact⟨_,_,_,_,rfl,HE.out⟩
end Go.Proofs.YtfajjdgkiilhfaaGreatDoor
