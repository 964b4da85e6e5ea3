import Derived.Test.YtfajjdgkiilhfaaGreatDoorC26
import Derived.Test.YtfajjdgkiilhfaaGreatDoorC39
namespace Go.Proofs.YtfajjdgkiilhfaaGreatDoor
open Proofs.Tryz
open Option renaming some->za,none->zc
open Value renaming slice->zd,int->ze,pointer->zh
open Obj renaming cells->zf
open Go renaming Value->zg,World->zi
set_option maxHeartbeats 8000000
set_option maxRecDepth 100000
open Go.RowKit
attribute [local go_sem ↓] wp_at_zero wp_at_succ
section
variable {B N p:Nat}{W W':zi}
def eY(n:Nat):List Int:=List.replicate n 0
theorem C8(n:Nat):(eY n).length=n:=List.length_replicate
def kP(c:List UInt8)(n a:Nat):Nat->List Int×Nat
 |0=>(eY n,a)
 |k+1=>((kP c n a k).1.set k (((k:Int)+1+(ae c 3 (kP c n a k).2).1)%6),(ae c 3 (kP c n a k).2).2)
theorem OU(c:List UInt8)(n a:Nat):∀k,(kP c n a k).1.length=n
 |0=>C8 n
 |k+1=>by rw[kP];exact jQ.trans (OU c n a k)
def VP(c:List UInt8)(n a:Nat):aL×Nat:=(⟨eY 256,1,(kP c n a 5).1,(eY n).set (ae c 6 (kP c n a 5).2).1.toNat (-1),eY n⟩,(ae c 6 (kP c n a 5).2).2)
def AG(c:List UInt8)(a:Nat):aL×Nat:=VP c (4000+(ae c 2 a).1).toNat (ae c 2 a).2
def Ga(N g0 g1 g2 g3:Nat):Nat->zg
 |0=>zd (za ⟨g0,0,zc⟩) 256 256
 |1=>zd (za ⟨g1,0,zc⟩) N N
 |2=>zd (za ⟨g2,0,zc⟩) N N
 |_=>zd (za ⟨g3,0,zc⟩) N N
theorem ztU{g0 g1 g2 g3:Nat}{l0 l1 l2 l3:List Int}(o0:bX (B+1) W (zd (za ⟨g0,0,zc⟩) 256 256) l0)(o1:bX (B+1) W (zd (za ⟨g1,0,zc⟩) N N) l1)(o2:bX (B+1) W (zd (za ⟨g2,0,zc⟩) N N) l2)(o3:bX (B+1) W (zd (za ⟨g3,0,zc⟩) N N) l3)(n01:g0≠g1)(n02:g0≠g2)(n03:g0≠g3)(SD:g1≠g2)(n13:g1≠g3)(n23:g2≠g3):aI B 4 W (Ga N g0 g1 g2 g3) (L4 l0 l1 l2 l3):=by
 refine⟨λi hi=>?_,λi j hi hj hne b hb=>?_⟩
 ·match i,hi with
  |0,_=>exact o0
  |1,_=>exact o1
  |2,_=>exact o2
  |3,_=>exact o3
 ·have key:∀i,i<4->(Ga N g0 g1 g2 g3 i).ownBlock=za (if i=0 then g0 else if i=1 then g1 else if i=2 then g2 else g3):=λi hi=>by
   match i,hi with
   |0,_=>rfl
   |1,_=>rfl
   |2,_=>rfl
   |3,_=>rfl
  rw[key i hi]at hb;rw[key j hj];injection hb with hb
  intro hc;injection hc with hc
  match i,j,hi,hj,hne with
  |0,1,_,_,_=>simp at hb hc;omega
  |0,2,_,_,_=>simp at hb hc;omega
  |0,3,_,_,_=>simp at hb hc;omega
  |1,0,_,_,_=>simp at hb hc;omega
  |1,2,_,_,_=>simp at hb hc;omega
  |1,3,_,_,_=>simp at hb hc;omega
  |2,0,_,_,_=>simp at hb hc;omega
  |2,1,_,_,_=>simp at hb hc;omega
  |2,3,_,_,_=>simp at hb hc;omega
  |3,0,_,_,_=>simp at hb hc;omega
  |3,1,_,_,_=>simp at hb hc;omega
  |3,2,_,_,_=>simp at hb hc;omega
  |0,0,_,_,h=>exact absurd rfl h
  |1,1,_,_,h=>exact absurd rfl h
  |2,2,_,_,h=>exact absurd rfl h
  |3,3,_,_,h=>exact absurd rfl h
def wW(B N:Nat):Nat->zg->zi->Prop
 |0,u,W=>∃g,u=zd (za ⟨g,0,zc⟩) 256 256/\bX (B+1) W u (eY 256)
 |1,u,_=>u=ze .i64 (N:Int)
 |2,u,W=>∃g,u=zd (za ⟨g,0,zc⟩) N N/\bX (B+1) W u (eY N)
 |3,u,_=>u=ze .i64 (N:Int)
 |4,u,W=>∃g,u=zd (za ⟨g,0,zc⟩) N N/\bX (B+1) W u (eY N)
 |5,u,_=>u=ze .i64 (N:Int)
 |6,u,W=>∃g,u=zd (za ⟨g,0,zc⟩) N N/\bX (B+1) W u (eY N)
 |7,u,W=>∃g0 g1 g2 g3,u=.agg #[zd (za ⟨g0,0,zc⟩) 256 256,ze .i64 1,zd (za ⟨g1,0,zc⟩) N N,zd (za ⟨g2,0,zc⟩) N N,zd (za ⟨g3,0,zc⟩) N N]/\aI B 4 W (Ga N g0 g1 g2 g3) (L4 (eY 256) (eY N) (eY N) (eY N))
 |8,u,W=>∃q,u=zh (za ⟨q,0,zc⟩)/\B<q/\W.heap[q]?=za (zf bI 25 (0,0))
 |_,_,_=>False
theorem bX.kp{v:zg}{xs:List Int}(h:bX (B+1) W v xs)(hk:aE p W W')(hB:p<B):bX (B+1) W' v xs:=nY h λb hb=>hk.block b (dG h hb).2 (by have:=(dG h hb).1;omega)
theorem wW.keep(hk:aE p W W')(hB:p<B):∀i u,wW B N i u W->wW B N i u W'
 |0,_,⟨g,e,h⟩=>⟨g,e,h.kp hk hB⟩
 |1,_,h=>h
 |2,_,⟨g,e,h⟩=>⟨g,e,h.kp hk hB⟩
 |3,_,h=>h
 |4,_,⟨g,e,h⟩=>⟨g,e,h.kp hk hB⟩
 |5,_,h=>h
 |6,_,⟨g,e,h⟩=>⟨g,e,h.kp hk hB⟩
 |7,_,⟨g0,g1,g2,g3,e,h⟩=>⟨g0,g1,g2,g3,e,h.keep λb aO aB=>hk.block b aB (by omega)⟩
 |8,_,⟨q,e,h1,h2⟩=>⟨q,e,h1,(hk.block q (ay h2) (by omega)).trans h2⟩
 |_+9,_,h=>h
theorem wW.lt:∀i u,wW B N i u W->∀b,u.ownBlock=za b->b<W.heap.size
 |0,_,⟨g,e,h⟩,b,hb=>(dG h hb).2
 |1,_,h,b,hb=>by cases h;cases hb
 |2,_,⟨g,e,h⟩,b,hb=>(dG h hb).2
 |3,_,h,b,hb=>by cases h;cases hb
 |4,_,⟨g,e,h⟩,b,hb=>(dG h hb).2
 |5,_,h,b,hb=>by cases h;cases hb
 |6,_,⟨g,e,h⟩,b,hb=>(dG h hb).2
 |7,_,⟨g0,g1,g2,g3,e,h⟩,b,hb=>by subst e;cases hb
 |8,_,⟨q,e,h1,h2⟩,b,hb=>by subst e;cases hb
 |_+9,_,h,_,_=>h.elim
theorem zpI(a0 a1 a2 a3:Option Addr)(n0 n1 n2 n3 c0 c1 c2 c3:Nat):prog.built 25 [(1,ze .i64 1),(0,.slice a0 n0 c0),(2,.slice a1 n1 c1),(3,.slice a2 n2 c2),(4,.slice a3 n3 c3)]=za #[.slice a0 n0 c0,ze .i64 1,.slice a1 n1 c1,.slice a2 n2 c2,.slice a3 n3 c3]:=by kernel_rfl
theorem ztf{ρ:Operand->zg}{o:Oper}{x y z t:Operand}(ho:o.op=.build 25 #[(1,.const (ze .i64 1)),(0,x),(2,y),(3,z),(4,t)])(h1:ρ (.const (ze .i64 1))=ze .i64 1){a0 a1 a2 a3:Option Addr}{n0 n1 n2 n3 c0 c1 c2 c3:Nat}(hx:ρ x=.slice a0 n0 c0)(hy:ρ y=.slice a1 n1 c1)(hz:ρ z=.slice a2 n2 c2)(ht:ρ t=.slice a3 n3 c3)(w:zi):(execOp ρ o).run prog w=.ok (.value (.agg #[.slice a0 n0 c0,ze .i64 1,.slice a1 n1 c1,.slice a2 n2 c2,.slice a3 n3 c3])) w:=by
 obtain⟨dst,op,type,pos,after,guard⟩:=o;simp only at ho;subst ho;have:=run_build (P:=prog) w 25 #[(1,ze .i64 1),(0,.slice a0 n0 c0),(2,.slice a1 n1 c1),(3,.slice a2 n2 c2),(4,.slice a3 n3 c3)] _ (zpI a0 a1 a2 a3 n0 n1 n2 n3 c0 c1 c2 c3);simp[execOp,h1,hx,hy,hz,ht,this,Result.andThen]
theorem zpE(w:zi)(p:Nat)(c:List UInt8)(a:Nat)(r:Int)(h:aR w p c a r):
  Calls prog 19 #[zh (za ⟨p,0,zc⟩)] w (Ae p w c (AG c a).1 (AG c a).2 r):=by
 have fF:prog.follows .mixedOrders=true:=by kernel_rfl
 have du:=h.lt;obtain⟨W0,aw⟩:∃W0,w.alloc (zf bI 25)=W0:=⟨_,rfl⟩;have aD:Below w.heap.size w W0:=by rw[<-aw];exact ax
 have x0:W0.heap[w.heap.size]?=za (zf bI 25 (0,0)):=by rw[<-aw];exact aJ _ _
 have HP:=ar λW a hW (n:Int) (hn:n<=65536)=>rK W p c a r hW n hn
 have h2:=HP.out W0 a (h.keep λk hk=>aD.block k (by omega)) 2 (by omega);have HF:Hid (AG c a=VP c (4000+(ae c 2 a).1).toNat (ae c 2 a).2):=rfl;have eE:=jL h.le 2;obtain⟨x2,y2,lN⟩:∃x y,ae c 2 a=(x,y):=⟨_,_,rfl⟩;rw[lN]at h2 HF eE;obtain⟨N,hN⟩:∃N:Nat,4000+x2=(N:Int):=⟨(4000+x2).toNat,by have:=eE.2.1;simp only at this;omega⟩;have Eg:4000<=N/\N<=4001:=by have h1:=eE.2.1;have h3:=eE.2.2;simp only at h1 h3;omega
 have HF:Hid (AG c a=VP c N y2):=by rw[hN]at HF;exact HF.out
 unfold bI at aw;clear eE lN
 go_enter func19,ntmps19
 go_wp2_with fail
 refine h2.mono ?_;rintro e w1 ⟨rfl,eM,bO⟩;have k1:=(aE.of (p:=p) aD).trans bO;have X1:w1.heap[w.heap.size]?=za (zf bI 25 (0,0)):=(bO.block _ (ay x0) (by omega)).trans x0;have r8:=ay X1;clear h2 aD bO aw x0
 go_upto_region 2 with fail
 refine zfW 9 [(0,9),(1,10),(2,11),(3,12),(4,13),(5,14),(6,15),(7,16),(8,4)] (λ_ W=>aE p w1 W/\aR W p c y2 r)
  (wW w.heap.size N)
  fF (by kernel_rfl) (by kernel_rfl) rfl ?_ ?_ ?_ ?_ ?_ ?_ ?_ ?_
 ·intro q hq;show q.2<37;simp only[pD,yD,or_false]at hq;rcases hq with rfl|rfl|rfl|rfl|rfl|rfl|rfl|rfl|rfl<;>decide
 ·decide
 ·decide
 ·intro q hq;simp only[pD,yD,or_false]at hq;rcases hq with rfl|rfl|rfl|rfl|rfl|rfl|rfl|rfl|rfl<;>decide
 ·exact⟨(aE.refl _ _).drew,eM.keep λ_ _=>rfl⟩
 ·exact λi u W=>wW.lt i u
 ·intro l a W i o hJ hi ho hl oD;obtain⟨kS,kR⟩:=hJ.inv;have hWs:=kS.size
  match i,hi,ho with
  |0,_,ho=>
   cases ho
   refine Oy (n:=256) rfl (by omega) rfl rfl (w.heap.size+1) (by omega) rfl λW' h2 h3=>?_
   have bC:aE p W W':=(aE.refl _ _).grown h3 (λb hb=>by cases hb);exact⟨⟨kS.trans bC,kR.grown h3 (λb hb=>by cases hb)⟩,λj u=>wW.keep bC (by omega) j u,9,_,by simp,rfl,⟨_,rfl,h2⟩,λb hb=>by cases hb;exact aq _⟩
  |1,_,ho=>
   cases ho
   have e0:a.eval (.tmp 3)=ze .i64 (N:Int):=hJ.act.ev 3 (by decide);refine A3 (Tu rfl W) rfl ⟨⟨kS,kR⟩,λ_ _ h=>h,10,_,by simp,rfl,e0,λb hb=>?_⟩;rw[e0]at hb;cases hb
  |2,_,ho=>
   cases ho
   have e0:a.eval (.tmp 10)=ze .i64 (N:Int):=hJ.val (1,10) (by simp) (oD 1 (by decide));refine Oy (n:=N) rfl (by omega) e0 e0 (w.heap.size+1) (by omega) rfl λW' h2 h3=>?_
   have bC:aE p W W':=(aE.refl _ _).grown h3 (λb hb=>by cases hb);exact⟨⟨kS.trans bC,kR.grown h3 (λb hb=>by cases hb)⟩,λj u=>wW.keep bC (by omega) j u,11,_,by simp,rfl,⟨_,rfl,h2⟩,λb hb=>by cases hb;exact aq _⟩
  |3,_,ho=>
   cases ho
   have e0:a.eval (.tmp 3)=ze .i64 (N:Int):=hJ.act.ev 3 (by decide);refine A3 (Tu rfl W) rfl ⟨⟨kS,kR⟩,λ_ _ h=>h,12,_,by simp,rfl,e0,λb hb=>?_⟩;rw[e0]at hb;cases hb
  |4,_,ho=>
   cases ho
   have e0:a.eval (.tmp 12)=ze .i64 (N:Int):=hJ.val (3,12) (by simp) (oD 3 (by decide));refine Oy (n:=N) rfl (by omega) e0 e0 (w.heap.size+1) (by omega) rfl λW' h2 h3=>?_
   have bC:aE p W W':=(aE.refl _ _).grown h3 (λb hb=>by cases hb);exact⟨⟨kS.trans bC,kR.grown h3 (λb hb=>by cases hb)⟩,λj u=>wW.keep bC (by omega) j u,13,_,by simp,rfl,⟨_,rfl,h2⟩,λb hb=>by cases hb;exact aq _⟩
  |5,_,ho=>
   cases ho
   have e0:a.eval (.tmp 3)=ze .i64 (N:Int):=hJ.act.ev 3 (by decide);refine A3 (Tu rfl W) rfl ⟨⟨kS,kR⟩,λ_ _ h=>h,14,_,by simp,rfl,e0,λb hb=>?_⟩;rw[e0]at hb;cases hb
  |6,_,ho=>
   cases ho
   have e0:a.eval (.tmp 14)=ze .i64 (N:Int):=hJ.val (5,14) (by simp) (oD 5 (by decide));refine Oy (n:=N) rfl (by omega) e0 e0 (w.heap.size+1) (by omega) rfl λW' h2 h3=>?_
   have bC:aE p W W':=(aE.refl _ _).grown h3 (λb hb=>by cases hb);exact⟨⟨kS.trans bC,kR.grown h3 (λb hb=>by cases hb)⟩,λj u=>wW.keep bC (by omega) j u,15,_,by simp,rfl,⟨_,rfl,h2⟩,λb hb=>by cases hb;exact aq _⟩
  |7,_,ho=>
   cases ho
   obtain⟨g0,e0,o0⟩:∃g,a.eval (.tmp 9)=zd (za ⟨g,0,zc⟩) 256 256/\bX (w.heap.size+1) W (a.eval (.tmp 9)) (eY 256):=hJ.val (0,9) (by simp) (oD 0 (by decide));obtain⟨g1,e1,o1⟩:∃g,a.eval (.tmp 11)=zd (za ⟨g,0,zc⟩) N N/\bX (w.heap.size+1) W (a.eval (.tmp 11)) (eY N):=hJ.val (2,11) (by simp) (oD 2 (by decide));obtain⟨g2,e2,o2⟩:∃g,a.eval (.tmp 13)=zd (za ⟨g,0,zc⟩) N N/\bX (w.heap.size+1) W (a.eval (.tmp 13)) (eY N):=hJ.val (4,13) (by simp) (oD 4 (by decide));obtain⟨g3,e3,o3⟩:∃g,a.eval (.tmp 15)=zd (za ⟨g,0,zc⟩) N N/\bX (w.heap.size+1) W (a.eval (.tmp 15)) (eY N):=hJ.val (6,15) (by simp) (oD 6 (by decide));have ap:∀i j k l gi gj ni nj,(i,k)∈[(0,9),(1,10),(2,11),(3,12),(4,13),(5,14),(6,15),(7,16),(8,4)]->(j,l)∈[(0,9),(1,10),(2,11),(3,12),(4,13),(5,14),(6,15),(7,16),(8,4)]->i∈BV .any _->j∈BV .any _->i≠j->a.eval (.tmp k)=zd (za ⟨gi,0,zc⟩) ni ni->a.eval (.tmp l)=zd (za ⟨gj,0,zc⟩) nj nj->gi≠gj:=λi j k l gi gj ni nj h1 h2 h3 h4 h5 h6 h7 h8=>hJ.apart (i,k) h1 (j,l) h2 (oD i h3) (oD j h4) (λe=>h5 (congrArg Prod.fst e)) gi (by rw[h6];rfl) (by rw[h7,h8];rfl)
   have n01:=ap 0 2 9 11 g0 g1 256 N (by simp) (by simp) (by decide) (by decide) (by decide) e0 e1;have n02:=ap 0 4 9 13 g0 g2 256 N (by simp) (by simp) (by decide) (by decide) (by decide) e0 e2;have n03:=ap 0 6 9 15 g0 g3 256 N (by simp) (by simp) (by decide) (by decide) (by decide) e0 e3;have SD:=ap 2 4 11 13 g1 g2 N N (by simp) (by simp) (by decide) (by decide) (by decide) e1 e2;have n13:=ap 2 6 11 15 g1 g3 N N (by simp) (by simp) (by decide) (by decide) (by decide) e1 e3;have n23:=ap 4 6 13 15 g2 g3 N N (by simp) (by simp) (by decide) (by decide) (by decide) e2 e3;rw[e0]at o0;rw[e1]at o1;rw[e2]at o2;rw[e3]at o3;exact A3 (ztf rfl rfl e0 e1 e2 e3 W) rfl ⟨⟨kS,kR⟩,λ_ _ h=>h,16,_,by simp,rfl,⟨_,_,_,_,rfl,ztU o0 o1 o2 o3 n01 n02 n03 SD n13 n23⟩,λb hb=>by cases hb⟩
  |8,_,ho=>
   cases ho
   have kT:Below W.heap.size W (W.alloc (zf bI 25)):=ax;exact A3 (zjr rfl W) rfl ⟨⟨kS.trans (.of kT),kR.keep λk hk=>kT.block k (by have:=kR.lt;omega)⟩,λj u=>wW.keep (.of kT) (by omega) j u,4,_,by simp,rfl,⟨_,rfl,by omega,aJ _ _⟩,λb hb=>by cases hb⟩
 ·intro l aa W o hJ ho bm;cases ho;obtain⟨kS,kR⟩:=hJ.inv;obtain⟨u9,v9⟩:∃u,aa.eval (.tmp 9)=u:=⟨_,rfl⟩;obtain⟨u10,v10⟩:∃u,aa.eval (.tmp 10)=u:=⟨_,rfl⟩;obtain⟨u11,v11⟩:∃u,aa.eval (.tmp 11)=u:=⟨_,rfl⟩;obtain⟨u12,v12⟩:∃u,aa.eval (.tmp 12)=u:=⟨_,rfl⟩;obtain⟨u13,v13⟩:∃u,aa.eval (.tmp 13)=u:=⟨_,rfl⟩;obtain⟨u14,v14⟩:∃u,aa.eval (.tmp 14)=u:=⟨_,rfl⟩;obtain⟨u15,v15⟩:∃u,aa.eval (.tmp 15)=u:=⟨_,rfl⟩;obtain⟨g0,g1,g2,g3,e4,WH⟩:∃g0 g1 g2 g3,aa.eval (.tmp 16)=.agg #[zd (za ⟨g0,0,zc⟩) 256 256,ze .i64 1,zd (za ⟨g1,0,zc⟩) N N,zd (za ⟨g2,0,zc⟩) N N,zd (za ⟨g3,0,zc⟩) N N]/\aI w.heap.size 4 W (Ga N g0 g1 g2 g3) (L4 (eY 256) (eY N) (eY N) (eY N)):=hJ.val (7,16) (by simp) (bm 7 (by omega));obtain⟨q,e5,hq,xQ⟩:∃q,aa.eval (.tmp 4)=zh (za ⟨q,0,zc⟩)/\w.heap.size<q/\W.heap[q]?=za (zf bI 25 (0,0)):=hJ.val (8,4) (by simp) (bm 8 (by omega));refine zl2 (zjs rfl e5 e4 xQ) rfl ?_;have ha:=zjC [(9,u9),(10,u10),(11,u11),(12,u12),(13,u13),(14,u14),(15,u15),(16,.agg #[zd (za ⟨g0,0,zc⟩) 256 256,ze .i64 1,zd (za ⟨g1,0,zc⟩) N N,zd (za ⟨g2,0,zc⟩) N N,zd (za ⟨g3,0,zc⟩) N N]),(4,zh (za ⟨q,0,zc⟩))] _ aa hJ.act (by
   intro x hx;simp only[pD,yD,or_false]at hx;rcases hx with rfl|rfl|rfl|rfl|rfl|rfl|rfl|rfl|rfl
   ·exact⟨(by decide:9<37),v9⟩
   ·exact⟨(by decide:10<37),v10⟩
   ·exact⟨(by decide:11<37),v11⟩
   ·exact⟨(by decide:12<37),v12⟩
   ·exact⟨(by decide:13<37),v13⟩
   ·exact⟨(by decide:14<37),v14⟩
   ·exact⟨(by decide:15<37),v15⟩
   ·exact⟨(by decide:16<37),e4⟩
   ·exact⟨(by decide:4<37),e5⟩)
  rw[ha];have xG:eZ p w w.heap.size w.heap.size q (ff W q (zd (za ⟨g0,0,zc⟩) 256 256) (ze .i64 1) (zd (za ⟨g1,0,zc⟩) N N) (zd (za ⟨g2,0,zc⟩) N N) (zd (za ⟨g3,0,zc⟩) N N)) 1 (Ga N g0 g1 g2 g3) (L4 (eY 256) (kP c N y2 0).1 (eY N) (eY N)):=by
   have et:=zkk (wd:=1) (v:=Ga N g0 g1 g2 g3) (show W.heap[q]?=za (zf #[_,_,_,_,_] _ _) from xQ);refine⟨WH.AX λi hi b hb=>zQ λe=>?_,et,(zQ (by omega)).trans ((kS.block _ r8 (by omega)).trans X1),OG (k1.trans kS) (by omega) _ _ _ _ _,by omega⟩;obtain⟨aZ,hc⟩:=wG (WH.own i hi) hb;rw[e,xQ]at hc;exact absurd (zR hc) (by decide)
  have Gp:aR (ff W q (zd (za ⟨g0,0,zc⟩) 256 256) (ze .i64 1) (zd (za ⟨g1,0,zc⟩) N N) (zd (za ⟨g2,0,zc⟩) N N) (zd (za ⟨g3,0,zc⟩) N N)) p c (kP c N y2 0).2 r:=kR.keep λk hk=>zQ (by omega)
  generalize ff W q (zd (za ⟨g0,0,zc⟩) 256 256) (ze .i64 1) (zd (za ⟨g1,0,zc⟩) N N) (zd (za ⟨g2,0,zc⟩) N N) (zd (za ⟨g3,0,zc⟩) N N)=W3 at xG Gp ⊢;have HV:∃v,Hid (v=Ga N g0 g1 g2 g3):=⟨_,rfl⟩;obtain⟨v,HV⟩:=HV;rw[<-HV.out]at xG;have rT:Hid (v 1=zd (za ⟨g1,0,zc⟩) N N):=by rw[HV.out];exact rfl
  have nA:Hid (v 2=zd (za ⟨g2,0,zc⟩) N N):=by rw[HV.out];exact rfl
  have aO:=dG (xG.au.own 1 (by omega)) (b:=g1) (by rw[rT.out];rfl);have aB:=dG (xG.au.own 2 (by omega)) (b:=g2) (by rw[nA.out];rfl);clear hJ bm kS kR e4 e5 WH xQ ha v9 v10 v11 v12 v13 v14 v15 HV X1 r8 k1 eM;simp only[List.foldl_cons,List.foldl_nil,Act.put,vl,yF,yB];have Ax:=ar xG;have DJ:=ar Gp;clear xG Gp;go_wp2
  go_loopw [5] (λi wr=>∃k:Nat,k<=5/\i=ze .i64 k/\eZ p w w.heap.size w.heap.size q wr 1 v (L4 (eY 256) (kP c N y2 k).1 (eY N) (eY N))/\aR wr p c (kP c N y2 k).2 r) (λi _=>5-(intOf i).toNat)
  case atStart=>exact⟨0,by omega,rfl,Ax.out,DJ.out⟩
  case round=>
   clear Ax DJ;obtain⟨k,vV,rfl,hS,hC⟩:=hrel;have HS:=ar hS;have HC:=ar hC;clear hS hC
   by_cases hlt:k<5
   ·have Cm:(k:Int)<5:=by omega
    have x0:∀s:fJ p wr,s.W.cell? ⟨q,2,zc⟩=za (zd (za ⟨g1,0,zc⟩) N N):=λs=>by rw[<-rT.out];exact(cE (HS.out.kp s.h).box).2.2.1
    have i0:(0:Int)<=(k:Int):=by omega
    have i1:(k:Int)<(N:Int):=by omega
    have Cl:=jL HC.out.le 3;have fx:=ar (HP.out wr.drew _ (HC.out.keep λ_ _=>rfl) 3 (by omega));obtain⟨y,a',hy⟩:∃y a',ae c 3 (kP c N y2 k).2=(y,a'):=⟨_,_,rfl⟩;have HN:Hid (kP c N y2 (k+1)=((kP c N y2 k).1.set k (((k:Int)+1+y)%6),a')):=by show _=_;rw[kP,hy]
    rw[hy]at fx Cl;have hy0:0<=y:=Cl.2.1;have hy1:y<3:=by have:=Cl.2.2;simp only at this;omega
    clear Cl hy
    go_upto_region 6 with fail
    refine tY [0,1,2,3,4,5] [6,7,8,9,10] 9 (λw'=>∃s:fJ p wr,w'=s.W) (λw'=>w'=World.drew wr) fF ⟨⟨World.drew wr,(aE.refl _ _).drew⟩,rfl⟩ rfl (by kernel_rfl) ?_;intro os bN;simp only[jw,jx,jA,jy]at bN;subst bN
    change wpQuiet _ _ _ _ [_,_,_,_,_,_] _
    repeat (go_big_quiet_step (fail))
    refine wpQuiet_nil ?_;rintro w' rfl r' dC;simp only[jw,jx,jA,jy,rQ]at dC;subst dC;clear x0;refine mj rfl (λK5 bM=>?_);refine yk 17 #[.tmp 26,.const (ze .i64 3)] #[39,3] (by rfl) #[zh (za ⟨p,0,zc⟩),ze .i64 3] (by simp[Act.eval]) (λv w'=>v=ze .i64 y/\aR w' p c a' r/\aE p (World.drew wr) w') (ye _ _) (fx.out.mono (by
     rintro e w1 ⟨rfl,h1⟩;exact⟨_,rfl,rfl,h1⟩)) ?_
    rintro v8 W8 ⟨rfl,mQ,kW⟩;have fE:aE p wr W8:=(aE.refl _ _).drew.trans kW;refine bM _ _ (λ_=>⟨⟨_,fE⟩,rfl⟩) ?_;clear bM K5 fx;have dm:=ar (HS.out.kp fE);obtain⟨gR,kU⟩:=dm.out.at (i:=1) (by omega) rT.out;rw[show L4 (eY 256) (kP c N y2 k).1 (eY N) (eY N) 1=(kP c N y2 k).1 from rfl,OU]at gR;have u8:=gR k (by omega);have f8:=kU k;have hem:((k:Int)+1+y)%6=((k:Int)+1+y)%6:=rfl;clear gR kU;simp only[Act.put,vl,yF,yB];refine mj rfl (λK5 bM=>?_)
    first|go_big_move|go_big_op
    refine bM _ _ (λ_=>⟨⟨_,fE⟩,rfl⟩) ?_;clear bM K5;refine mj rfl (λK5 bM=>?_)
    first|go_big_move|go_big_op
    refine bM _ _ (λ_=>⟨⟨_,fE⟩,rfl⟩) ?_;clear bM K5;refine tZ (by simp) (λ_ _ h=>h) ?_
    change wpList _ _ _ [_,_] _ _
    go_wp2;rw[qc];go_wp2
    go_roundw
    case rel=>
     refine⟨k+1,by omega,by go_num,?_,?_⟩
     ·rw[HN.out];exact(dm.out.put (i:=1) (by omega) rT.out (OU _ _ _ _) k _).to rfl rfl rfl rfl
     ·rw[HN.out];exact mQ.put (by omega) _ _
    case measure=>simp[intOf];omega
   ·have zy2:k=5:=by omega
    have fX:¬(k:Int)<5:=by omega
    rw[zy2]at HS HC;clear zy2 hlt vV;have HG:Hid (AG c a=(⟨eY 256,1,(kP c N y2 5).1,(eY N).set (ae c 6 (kP c N y2 5).2).1.toNat (-1),eY N⟩,(ae c 6 (kP c N y2 5).2).2)):=HF.out;have x0:∀s:fJ p wr,s.W.cell? ⟨q,3,zc⟩=za (zd (za ⟨g2,0,zc⟩) N N):=λs=>by rw[<-nA.out];exact(cE (HS.out.kp s.h).box).2.2.2.1
    have Cl:=jL HC.out.le 6;have fx:=ar (HP.out wr.drew _ (HC.out.keep λ_ _=>rfl) 6 (by omega));obtain⟨y,a',hy⟩:∃y a',ae c 6 (kP c N y2 5).2=(y,a'):=⟨_,_,rfl⟩;rw[hy]at fx Cl HG;obtain⟨m,rfl⟩:∃m:Nat,y=(m:Int):=⟨y.toNat,by have:=Cl.2.1;simp only at this;omega⟩;have J9:m<6:=by have:=Cl.2.2;simp only at this;omega
    have i0:(0:Int)<=(m:Int):=by omega
    have i1:(m:Int)<(N:Int):=by omega
    clear Cl hy
    go_upto_region 7 with fail
    refine tY [0,1,2] [3,4,5] 4 (λw'=>∃s:fJ p wr,w'=s.W) (λw'=>w'=World.drew wr) fF ⟨⟨World.drew wr,(aE.refl _ _).drew⟩,rfl⟩ rfl (by kernel_rfl) ?_;intro os bN;simp only[jw,jx,jA,jy]at bN;subst bN
    change wpQuiet _ _ _ _ [_,_,_] _
    repeat (go_big_quiet_step (fail))
    refine wpQuiet_nil ?_;rintro w' rfl r' dC;simp only[jw,jx,jA,jy,rQ]at dC;subst dC;clear x0;refine mj rfl (λK5 bM=>?_);refine yk 17 #[.tmp 33,.const (ze .i64 6)] #[39,3] (by rfl) #[zh (za ⟨p,0,zc⟩),ze .i64 6] (by simp[Act.eval]) (λv w'=>v=ze .i64 (m:Int)/\aR w' p c a' r/\aE p (World.drew wr) w') (ye _ _) (fx.out.mono (by
     rintro e w1 ⟨rfl,h1⟩;exact⟨_,rfl,rfl,h1⟩)) ?_
    rintro v8 W8 ⟨rfl,mQ,kW⟩;have fE:aE p wr W8:=(aE.refl _ _).drew.trans kW;refine bM _ _ (λ_=>⟨⟨_,fE⟩,rfl⟩) ?_;clear bM K5 fx;have dm:=ar (HS.out.kp fE);obtain⟨gR,kU⟩:=dm.out.at (i:=2) (by omega) nA.out;rw[show L4 (eY 256) (kP c N y2 5).1 (eY N) (eY N) 2=eY N from rfl,C8]at gR;have u8:=gR m (by omega);have f8:=kU m;have er:=ar ((dm.out.put (i:=2) (by omega) nA.out (C8 _) m (-1)).to (a:=eY 256) (b:=(kP c N y2 5).1) (c:=(eY N).set m (-1)) (d:=eY N) rfl rfl rfl rfl);have mD:=ar (mQ.put (b:=g2) (by omega) m (ze .i64 (-1)));clear gR kU;refine tZ (by simp) (λ_ _ h=>h) ?_
    change wpList _ _ _ [_,_] _ _
    go_wp2;rw[qc];generalize hU:W8.setCell ⟨g2,m,zc⟩ (ze .i64 (-1))=U at *;obtain⟨⟨a0,c0⟩,iI⟩:=dQ (er.out.au.own 0 (by omega));obtain⟨⟨a1,c1⟩,jY⟩:=dQ (er.out.au.own 1 (by omega));obtain⟨⟨a2,c2⟩,eP⟩:=dQ (er.out.au.own 2 (by omega));obtain⟨⟨a3,c3⟩,fi⟩:=dQ (er.out.au.own 3 (by omega));have HE:=ar (er.out.done mD.out (by
     intro i hi
     match i,hi with
     |0,_=>show (eY 256).length<=_;rw[C8];omega
     |1,_=>show (kP c N y2 5).1.length<=_;rw[OU];omega
     |2,_=>show ((eY N).set m (-1)).length<=_;rw[jQ,C8];omega
     |3,_=>show (eY N).length<=_;rw[C8];omega))
    obtain⟨b0,b1,b2,b3,b4⟩:=cE er.out.box;have dK:=er.out.bw;have r0:=aM _ _ 0 _ _ dK;have r1:=aM _ _ 1 _ _ dK;have r2:=aM _ _ 2 _ _ dK;have r3:=aM _ _ 3 _ _ dK;have r4:=aM _ _ 4 _ _ dK;unfold bI at dK;obtain⟨z0,z1,z2,z3,z4⟩:=dM dK;simp only at iI jY eP fi;rw[iI,jY,eP,fi]at HE;rw[iI]at b0;rw[jY]at b2;rw[eP]at b3;rw[fi]at b4;clear dK iI jY eP fi
    skip
    go_wp2;refine aW (v:=_) (by simp[results,results19,go_sem,z0,z1,z2,z3,z4];rfl) rfl ?_;rw[HG.out];exact⟨_,_,_,_,rfl,HE.out⟩
end
variable {c:List UInt8}{lo b:Nat}{W:zi}{cv nv tv ev:zg}{d:aL}
noncomputable def AK (rs:List dL):Int×Int×(Nat->List Int):=((TV rs 90).choose,(TV rs 90).choose_spec.choose,(TV rs 90).choose_spec.choose_spec.choose)
theorem zty(rs:List dL):FK rs 90 (AK rs).1 (AK rs).2.1 (AK rs).2.2:=(TV rs 90).choose_spec.choose_spec.choose_spec
structure DwD where
 d:aL
 a:Nat
 r:Int
noncomputable def Mx (c:List UInt8) (code width:Int) (l:Nat->List Int) (a:Nat):aL×Nat:=if code≠0\/100<width then nR c a else (⟨l 0,width,l 1,l 2,l 3⟩,a)
noncomputable def Ge (c:List UInt8) (how:Int) (b:aL×Nat):aL×Nat:=if 3<=how then b else if how=2 then uE c (nR c b.2).1 (nR c b.2).2 else uE c b.1 b.2
noncomputable def Gf (c:List UInt8) (R:Je):aL×Nat:=Mx c (AK R.rs).1 (AK R.rs).2.1 (AK R.rs).2.2 R.a
noncomputable def rj (c:List UInt8) (a:Nat) (r:Int):DwD:=
 if (ae c 6 a).1=5 then ⟨(nR c (ae c 6 a).2).1,(nR c (ae c 6 a).2).2,r⟩
 else ⟨(Ge c (ae c 6 a).1 (Gf c (oe c 3 7 (ae c 6 a).2 r))).1,(Ge c (ae c 6 a).1 (Gf c (oe c 3 7 (ae c 6 a).2 r))).2,(oe c 3 7 (ae c 6 a).2 r).r⟩
theorem ztD{rs:List dL}{code width:Int}{l:Nat->List Int}(h:FK rs 90 code width l)(a:Nat):Bh (Mx c code width l a).1:=by
 unfold Mx;split
 ·exact OZ c a
 ·rename_i hn
  have e:code=0:=Classical.byContradiction λe=>hn (.inl e)
  subst e;exact zoI h (by omega)
theorem zp5(c:List UInt8)(a:Nat)(r:Int):eI (rj c a r).d/\(rj c a r).d.next.length<=65536:=by
 unfold rj;split
 ·exact⟨(OZ c _).qx,(OZ c _).nx⟩
 ·have h:Bh (Gf c (oe c 3 7 (ae c 6 a).2 r)).1:=ztD (zty _) _;unfold Ge;split
  ·exact⟨h.qx,h.nx⟩
  ·split
   ·exact zp1 (OZ c _) _
   ·exact zp1 h _
theorem dD.ff{v:zg}{xs:List Int}(h:dD lo W v xs)(hb:b<lo)(u0 u1 u2 u3 u4:zg):dD lo (ff W b u0 u1 u2 u3 u4) v xs:=by
 unfold Go.Proofs.YtfajjdgkiilhfaaGreatDoor.ff;exact((((h.same (.setCell _ hb _)).same (.setCell _ hb _)).same (.setCell _ hb _)).same (.setCell _ hb _)).same (.setCell _ hb _)
theorem dP.ff(h:dP lo W cv nv tv ev d)(hb:b<lo)(u0 u1 u2 u3 u4:zg):dP lo (Go.Proofs.YtfajjdgkiilhfaaGreatDoor.ff W b u0 u1 u2 u3 u4) cv nv tv ev d:=⟨h.ai.ff hb _ _ _ _ _,h.next.ff hb _ _ _ _ _,h.tag.ff hb _ _ _ _ _,h.fin.ff hb _ _ _ _ _⟩
theorem dP.form(h:dP lo W cv nv tv ev d):∃a0 n0 c0 a1 n1 c1 a2 n2 c2 a3 n3 c3,cv=.slice a0 n0 c0/\nv=.slice a1 n1 c1/\tv=.slice a2 n2 c2/\ev=.slice a3 n3 c3:=by
 obtain⟨⟨a0,c0,e0,_,_⟩,⟨a1,c1,e1,_,_⟩,⟨a2,c2,e2,_,_⟩,⟨a3,c3,e3,_,_⟩⟩:=h;exact⟨a0,_,c0,a1,_,c1,a2,_,c2,a3,_,c3,e0,e1,e2,e3⟩
theorem Ae.bw{p:Nat}{w:zi}{a:Nat}{r:Int}(hd:dP (w.heap.size+1) W cv nv tv ev d)(hc:aR W p c a r)(hk:aE p w W)(hp:p<w.heap.size)(iJ:Bt nv):(dP w.heap.size (ff W w.heap.size cv (ze .i64 d.width) nv tv ev) cv nv tv ev d/\Bt nv)/\aR (ff W w.heap.size cv (ze .i64 d.width) nv tv ev) p c a r/\aE p w (ff W w.heap.size cv (ze .i64 d.width) nv tv ev):=
 ⟨⟨(hd.ff (FG _) _ _ _ _ _).low (Nat.le_succ _),iJ⟩,hc.keep λk hk=>zQ (by omega),OG hk (aq _) _ _ _ _ _⟩
theorem CU{g:Nat}{z0 z1 z2 z3 z4:zg}{t:TypeId}(h:W.heap[g]?=za (zf #[z0,z1,z2,z3,z4] t (0,0))):(W.cell? ⟨g,0,zc⟩=za z0/\W.cell? ⟨g,1,zc⟩=za z1/\W.cell? ⟨g,2,zc⟩=za z2/\W.cell? ⟨g,3,zc⟩=za z3/\W.cell? ⟨g,4,zc⟩=za z4)/\W.frozen? ⟨g,0,zc⟩=false/\W.frozen? ⟨g,1,zc⟩=false/\W.frozen? ⟨g,2,zc⟩=false/\W.frozen? ⟨g,3,zc⟩=false/\W.frozen? ⟨g,4,zc⟩=false:=
 ⟨dM h,aM _ _ 0 _ _ h,aM _ _ 1 _ _ h,aM _ _ 2 _ _ h,aM _ _ 3 _ _ h,aM _ _ 4 _ _ h⟩
theorem zoK(w:zi)(p:Nat)(c:List UInt8)(a:Nat)(r:Int)(h:aR w p c a r):
  Calls prog 16 #[zh (za ⟨p,0,zc⟩)] w (Ae p w c (rj c a r).d (rj c a r).a (rj c a r).r):=by
 have du:=h.lt;obtain⟨W0,aw⟩:∃W0,w.alloc (zf bI 25)=W0:=⟨_,rfl⟩;have aD:Below w.heap.size w W0:=by rw[<-aw];exact ax
 have x0:W0.heap[w.heap.size]?=za (zf bI 25 (0,0)):=by rw[<-aw];exact aJ _ _
 have G0:=rK W0 p c a r (h.below aD) 6 (by omega);have GP:=ue (c:=c) (a:=a) (n:=6) (by omega);have HF:Hid (rj c a r=if (ae c 6 a).1=5 then ⟨(nR c (ae c 6 a).2).1,(nR c (ae c 6 a).2).2,r⟩ else ⟨(Ge c (ae c 6 a).1 (Gf c (oe c 3 7 (ae c 6 a).2 r))).1,(Ge c (ae c 6 a).1 (Gf c (oe c 3 7 (ae c 6 a).2 r))).2,(oe c 3 7 (ae c 6 a).2 r).r⟩):=rfl;obtain⟨x6,y6,iE⟩:∃x y,ae c 6 a=(x,y):=⟨_,_,rfl⟩;rw[iE]at G0 GP HF;obtain⟨l60,l61⟩:=GP;simp only at l60 l61;unfold bI at aw;clear iE
 go_enter func16,ntmps16
 go_wp2_with fail
 refine G0.mono ?_;rintro e w1 ⟨rfl,eM,bO⟩;have k1:=(aE.of (p:=p) aD).trans bO;have X1:w1.heap[w.heap.size]?=za (zf bI 25 (0,0)):=(bO.block _ (ay x0) (by omega)).trans x0;have r8:=ay X1;clear G0 aD x0 bO aw h
 by_cases QT:x6=5
 ·subst QT;have HE:=ah (HF.out.trans (af rfl));have EH:=zh7 w1 p c y6 r eM;generalize nR c y6=rf at *;obtain⟨d,ya⟩:=rf;clear HF
  go_wp2_with fail
  refine EH.mono ?_;rintro e w2 ⟨cv,nv,tv,ev,rfl,⟨hD,iJ⟩,eQ,bu⟩;obtain⟨a0,n0,c0,a1,n1,c1,a2,n2,c2,a3,n3,c3,rfl,rfl,rfl,rfl⟩:=hD.form;have HA:=ah (Ae.bw (w:=w) (hD.low (by omega)) eQ (k1.trans bu) du iJ);have X2:w2.heap[w.heap.size]?=za (zf bI 25 (0,0)):=(bu.block _ r8 (by omega)).trans X1;unfold bI at X2;obtain⟨⟨z0,z1,z2,z3,z4⟩,f0,f1,f2,f3,f4⟩:=CU X2;clear EH hD iJ eQ bu eM k1 X1 X2;go_wp2;refine aW (v:=_) (by simp[results,results16,go_sem,z0,z1,z2,z3,z4];rfl) rfl ?_;rw[HE.out];exact⟨_,_,_,_,rfl,HA.out⟩
 have m5:(x6==5)=false:=by simp[QT]
 have HE:=ah (HF.out.trans (ab QT));have XA:=zkQ w1 p c y6 r eM 3 7 (by omega) (by omega) (by omega) (by omega);have pP:=zty (oe c 3 7 y6 r).rs;have XG:=zia c 7 (ae c 3 y6).2 r (1+(ae c 3 y6).1).toNat;have hN3:(1+(ae c 3 y6).1).toNat<=3:=by have:=ue (c:=c) (a:=y6) (n:=3) (by omega);omega
 have Nh:LC (oe c 3 7 y6 r).rs:=XG.1;have RW:(oe c 3 7 y6 r).rs.length<=3:=cY XG.2 hN3;have yP:Hid (Gf c (oe c 3 7 y6 r)=Mx c (AK (oe c 3 7 y6 r).rs).1 (AK (oe c 3 7 y6 r).rs).2.1 (AK (oe c 3 7 y6 r).rs).2.2 (oe c 3 7 y6 r).a):=rfl;generalize Gf c (oe c 3 7 y6 r)=bR at *;generalize oe c 3 7 y6 r=RR at *;obtain⟨rs,yr,rr⟩:=RR;simp only at XA pP Nh RW yP HE;generalize AK rs=cm at *;obtain⟨code,width,l⟩:=cm;simp only at pP yP;have hsm:Iy rs:=zmJ Nh (by omega);clear HF XG hN3
 go_wp2_with fail
 refine XA.mono ?_;rintro e w3 ⟨rv,rfl,hRu,eU,bQ⟩
 go_wp2_with fail
 refine(ziF rv rs 90 code width l w3 (hRu.mono (dz _)) hsm (zsQ hsm) pP).mono ?_;rintro e w4 ⟨gt,v,rfl,dN,zb,de⟩;have pd:=eU.below de;have k4:=(k1.trans bQ).trans (.of de);have X4:w4.heap[w.heap.size]?=za (zf bI 25 (0,0)):=aT ((bQ.block _ r8 (by omega)).trans X1) de;have G6:=bQ.size;have Sk:=de.size;have HB:=ah (ztD (c:=c) pP yr);clear XA pP Nh RW hsm hRu eU bQ de k1 X1 eM;obtain⟨⟨a0,c0⟩,e0⟩:=dQ (zb.own 0 (by omega));obtain⟨⟨a1,c1⟩,e1⟩:=dQ (zb.own 1 (by omega));obtain⟨⟨a2,c2⟩,e2⟩:=dQ (zb.own 2 (by omega));obtain⟨⟨a3,c3⟩,e3⟩:=dQ (zb.own 3 (by omega));simp only at e0 e1 e2 e3;have zzr:iF width v=#[.slice a0 (l 0).length c0,ze .i64 width,.slice a1 (l 1).length c1,.slice a2 (l 2).length c2,.slice a3 (l 3).length c3]:=by unfold iF;rw[e0,e1,e2,e3]
 rw[zzr];have hA4:(∀i,i<4->(l i).length<=1048576)->dP (w.heap.size+1) w4 (.slice a0 (l 0).length c0) (.slice a1 (l 1).length c1) (.slice a2 (l 2).length c2) (.slice a3 (l 3).length c3) ⟨l 0,width,l 1,l 2,l 3⟩:=λhl=>by
  have hO:∀i,i<4->dD (w.heap.size+1) w4 (v i) (l i):=λi hi=>((zb.own i hi).at (by have:=hl i hi;omega)).low (by omega)
  exact⟨e0 ▸ hO 0 (by omega),e1 ▸ hO 1 (by omega),e2 ▸ hO 2 (by omega),e3 ▸ hO 3 (by omega)⟩
 have HA4:=ah hA4;have HP4:Hid (Bt (.slice a1 (l 1).length c1)):=e1 ▸ zn6 (zb.own 1 (by omega));clear hA4 zzr e0 e1 e2 e3 zb;generalize (l 0).length=n0 at *;generalize (l 1).length=n1 at *;generalize (l 2).length=n2 at *;generalize (l 3).length=n3 at *;obtain⟨W5,oC⟩:∃W5,w4.alloc (zf #[.slice a0 n0 c0,ze .i64 width,.slice a1 n1 c1,.slice a2 n2 c2,.slice a3 n3 c3] 25)=W5:=⟨_,rfl⟩;have cQ:Below w4.heap.size w4 W5:=by rw[<-oC];exact ax
 have z5:W5.heap[w4.heap.size]?=za (zf #[.slice a0 n0 c0,ze .i64 width,.slice a1 n1 c1,.slice a2 n2 c2,.slice a3 n3 c3] 25 (0,0)):=by rw[<-oC];exact aJ _ _
 have Qd:=ah (pd.below cQ);have Mo:=ah (k4.trans (.of cQ));have Mh:=ah (aT X4 cQ);have FM:=ah λhl=>(HA4.out hl).below cQ
 have P9:=ah z5;have vS:=ay z5;have hRb:=ay X4;have y1:=(dM z5).2.1;have F1:=ah oC;clear pd k4 X4 cQ HA4 z5 oC G6 Sk dN r8
 go_upto_region 5 with fail
 rw[F1.out];clear F1;generalize w4.heap.size=bt at *
 go_cut [24] from 18 to 24 (λv wx=>v=.bool (decide (code≠0\/100<width))/\wx=W5)
 case first=>
  by_cases hc:code=0
  ·subst hc
   by_cases hw:100<width
   ·go_wp2
    go_meet
    exact⟨by simp[hw],rfl⟩
   ·go_wp2
    go_meet
    exact⟨by simp[hw],rfl⟩
  ·have hc':(code != 0)=true:=by simp[hc]
   go_wp2
   go_meet
   exact⟨by simp[hc],rfl⟩
 obtain⟨rfl,xV⟩:=hcut;subst xV
 rename_i K hK
 refine hK _ _ ?_;clear hK K;obtain⟨V,hV⟩:∃V,V=wc:=⟨_,rfl⟩;subst hV
 go_cut [] from 24 to 26 (λwx=>∃a0 n0 c0 a1 n1 c1 a2 n2 c2 a3 n3 c3,wx.heap[bt]?=za (zf #[.slice a0 n0 c0,ze .i64 bR.1.width,.slice a1 n1 c1,.slice a2 n2 c2,.slice a3 n3 c3] 25 (0,0))/\(dP (w.heap.size+1) wx (.slice a0 n0 c0) (.slice a1 n1 c1) (.slice a2 n2 c2) (.slice a3 n3 c3) bR.1/\Bt (.slice a1 n1 c1))/\aR wx p c bR.2 rr/\aE p w wx/\wx.heap[w.heap.size]?=za (zf bI 25 (0,0)))
 case first=>
  by_cases M2:code≠0\/100<width
  ·rw[show decide (code≠0\/100<width)=true from decide_eq_true M2];have HR:Hid (bR=nR c yr):=yP.out.trans (af M2);have EH:=zh7 V p c yr rr Qd.out;generalize nR c yr=rf at *;obtain⟨d,ya⟩:=rf
   go_wp2_with fail
   refine EH.mono ?_;rintro e w6 ⟨cv,nv,tv,ev,rfl,⟨hD,iJ⟩,Eu,lK⟩;obtain⟨b0,m0,e0,b1,m1,e1,b2,m2,e2,b3,m3,e3,rfl,rfl,rfl,rfl⟩:=hD.form;have z6:=(lK.block bt vS (by omega)).trans P9.out;have Sw:=z6;have HR6:=ah (zkk (wd:=d.width) (v:=vA (.slice b0 m0 e0) (.slice b1 m1 e1) (.slice b2 m2 e2) (.slice b3 m3 e3)) z6);have HD6:=ah ((hD.ff vS (.slice b0 m0 e0) (ze .i64 d.width) (.slice b1 m1 e1) (.slice b2 m2 e2) (.slice b3 m3 e3)).low (show w.heap.size+1<=_ by have:=Mo.out.size;omega));have HC6:=ah (Eu.keep (w':=ff w6 bt (.slice b0 m0 e0) (ze .i64 d.width) (.slice b1 m1 e1) (.slice b2 m2 e2) (.slice b3 m3 e3)) λk hk=>zQ (by omega));have HK6:=ah (OG (Mo.out.trans lK) (g:=bt) (by omega) (.slice b0 m0 e0) (ze .i64 d.width) (.slice b1 m1 e1) (.slice b2 m2 e2) (.slice b3 m3 e3));have HX6:=ah ((zQ (W:=w6) (g:=bt) (k:=w.heap.size) (u0:=.slice b0 m0 e0) (u1:=ze .i64 d.width) (u2:=.slice b1 m1 e1) (u3:=.slice b2 m2 e2) (u4:=.slice b3 m3 e3) (by omega)).trans ((lK.block _ (ay Mh.out) (by omega)).trans Mh.out));obtain⟨⟨q0,q1,q2,q3,q4⟩,f0,f1,f2,f3,f4⟩:=CU z6;have UA:=ah iJ;clear iJ EH hD Eu lK z6 Sw Mh FM P9 y1 Qd Mo;go_wp2
   go_meet
   rw[HR.out];exact⟨_,_,_,_,_,_,_,_,_,_,_,_,HR6.out,⟨HD6.out,UA.out⟩,HC6.out,HK6.out,HX6.out⟩
  ·rw[show decide (code≠0\/100<width)=false from decide_eq_false M2];have HR:Hid (bR=(⟨l 0,width,l 1,l 2,l 3⟩,yr)):=yP.out.trans (ab M2);have nL:Bh ⟨l 0,width,l 1,l 2,l 3⟩:=by have:=HB.out;unfold Mx at this;rw[ab M2]at this;exact this
   have hls:∀i,i<4->(l i).length<=1048576:=by
    have hn:=nL.n;have rq:=nL.qx.fl;have aV:=nL.qx.cl;have iw:=nL.nx;simp only at hn rq aV iw;intro i hi
    match i,hi with
    |0,_=>omega
    |1,_=>omega
    |2,_=>omega
    |3,_=>omega
   have HD5:=ah (FM.out hls);clear nL hls FM HB yP;go_wp2
   go_meet
   rw[HR.out];exact⟨_,_,_,_,_,_,_,_,_,_,_,_,P9.out,⟨HD5.out,HP4.out⟩,Qd.out,Mo.out,Mh.out⟩
 case rest=>
  clear Mh FM P9 y1 Qd Mo vS V;obtain⟨b0,m0,e0,b1,m1,e1,b2,m2,e2,b3,m3,e3,hZ,⟨hD,iJ⟩,hC,hk,hX⟩:=hcut;have UA:=ah iJ;clear iJ HP4;have zyx:Bh bR.1:=by rw[yP.out];exact HB.out
  have Mj:=ah zyx;clear HB yP zyx;obtain⟨d,yb⟩:=bR;replace hD:dP (w.heap.size+1) wc (.slice b0 m0 e0) (.slice b1 m1 e1) (.slice b2 m2 e2) (.slice b3 m3 e3) d:=hD;replace hC:aR wc p c yb rr:=hC;have Mj:Hid (Bh d):=Mj.out;replace hZ:wc.heap[bt]?=za (zf #[.slice b0 m0 e0,ze .i64 d.width,.slice b1 m1 e1,.slice b2 m2 e2,.slice b3 m3 e3] 25 (0,0)):=hZ;obtain⟨q0,q1,q2,q3,q4⟩:=dM hZ;have HX:=ah hX;have hRl:=ay hX
  by_cases h3:3<=x6
  ·have HG:Hid (rj c a r=⟨d,yb,rr⟩):=by have:=HE.out;unfold Ge at this;rw[af h3]at this;exact this
   have HA:=ah (Ae.bw (w:=w) hD hC hk du UA.out);unfold bI at hX;obtain⟨⟨z0,z1,z2,z3,z4⟩,f0,f1,f2,f3,f4⟩:=CU hX;clear HE hX hD hC hk hZ HX;go_wp2;refine aW (v:=_) (by simp[results,results16,go_sem,z0,z1,z2,z3,z4];rfl) rfl ?_;rw[HG.out];exact⟨_,_,_,_,rfl,HA.out⟩
  have fM:Hid (rj c a r=⟨(if x6=2 then uE c (nR c yb).1 (nR c yb).2 else uE c d yb).1,(if x6=2 then uE c (nR c yb).1 (nR c yb).2 else uE c d yb).2,rr⟩):=by have:=HE.out;unfold Ge at this;rw[ab h3]at this;exact this
  by_cases h2:x6=2
  ·subst h2;have HG:=fM.out;rw[af rfl]at HG;have EH:=zh7 wc p c yb rr hC;have Sj:=OZ c yb;generalize nR c yb=rf at *;obtain⟨d2,y2⟩:=rf;have HG:=ah HG;clear HE fM q0 q1 q2 q3 q4
   go_wp2_with fail
   refine EH.mono ?_;rintro e w6 ⟨cv,nv,tv,ev,rfl,⟨hD6,_⟩,Eu,lK⟩;have NP:=lK.size;have Yp:=hC.lt;have Ch:=zkO w6 p c y2 rr Eu cv nv tv ev d2 (hD6.low (by omega)) Sj.qx Sj.n Sj.w
   go_wp2_with fail
   refine Ch.mono ?_;rintro e w7 ⟨cv7,nv7,tv7,ev7,rfl,⟨Gm,Ct⟩,Ev,uK⟩;obtain⟨a0,n0,c0,a1,n1,c1,a2,n2,c2,a3,n3,c3,rfl,rfl,rfl,rfl⟩:=Gm.form;have HA:=ah (Ae.bw (w:=w) (Gm.low (by omega)) Ev ((hk.trans lK).trans uK) du Ct);have X7:w7.heap[w.heap.size]?=za (zf bI 25 (0,0)):=(uK.block _ (by omega) (by omega)).trans ((lK.block _ hRl (by omega)).trans hX);unfold bI at X7;obtain⟨⟨z0,z1,z2,z3,z4⟩,f0,f1,f2,f3,f4⟩:=CU X7;clear Ct EH Ch Gm Ev uK hD6 Eu lK hX X7 HX hZ hD hC hk Sj;go_wp2;refine aW (v:=_) (by simp[results,results16,go_sem,z0,z1,z2,z3,z4];rfl) rfl ?_;rw[HG.out];exact⟨_,_,_,_,rfl,HA.out⟩
  ·have HG:=fM.out;rw[ab h2]at HG;have HG:=ah HG;have mx2:(x6==2)=false:=by simp[h2]
   have Ch:=zkO wc p c yb rr hC (.slice b0 m0 e0) (.slice b1 m1 e1) (.slice b2 m2 e2) (.slice b3 m3 e3) d (hD.low (by omega)) Mj.out.qx Mj.out.n Mj.out.w;clear HE fM
   go_wp2_with fail
   refine Ch.mono ?_;rintro e w7 ⟨cv7,nv7,tv7,ev7,rfl,⟨Gm,Ct⟩,Ev,uK⟩;obtain⟨a0,n0,c0,a1,n1,c1,a2,n2,c2,a3,n3,c3,rfl,rfl,rfl,rfl⟩:=Gm.form;have HA:=ah (Ae.bw (w:=w) (Gm.low (by omega)) Ev (hk.trans uK) du Ct);have X7:w7.heap[w.heap.size]?=za (zf bI 25 (0,0)):=(uK.block _ hRl (by omega)).trans hX;unfold bI at X7;obtain⟨⟨z0,z1,z2,z3,z4⟩,f0,f1,f2,f3,f4⟩:=CU X7;clear Ct Ch Gm Ev uK hX X7 HX hZ hD hC hk;go_wp2;refine aW (v:=_) (by simp[results,results16,go_sem,z0,z1,z2,z3,z4];rfl) rfl ?_;rw[HG.out];exact⟨_,_,_,_,rfl,HA.out⟩
end Go.Proofs.YtfajjdgkiilhfaaGreatDoor
