import Derived.Test.YtfajjdgkiilhfaaC48
namespace Go.Proofs.Ytfajjdgkiilhfaa
open Proofs.Try
open Option renaming some->za,none->zh
open Value renaming int->zi,slice->zn,pointer->zD,agg->zF
open Obj renaming cells->zp
open RowKit renaming Hid->zw,Below->zy
open Go renaming World->zx,Value->zB,Calls->zG
set_option maxHeartbeats 8000000
set_option maxRecDepth 100000
open Go.RowKit
attribute [local go_sem ↓] wp_at_zero wp_at_succ
section
variable {B N p:Nat}{W W':zx}
def eV(n:Nat):List Int:=List.replicate n 0
theorem D5(n:Nat):(eV n).length=n:=xI
def kU(c:List UInt8)(n a:Nat):Nat->List Int×Nat
 |0=>(eV n,a)
 |k+1=>((kU c n a k).1.set k (((k:Int)+1+(af c 3 (kU c n a k).2).1)%6),(af c 3 (kU c n a k).2).2)
theorem PY(c:List UInt8)(n a:Nat):∀k,(kU c n a k).1.length=n
 |0=>D5 n
 |k+1=>by rw[kU];exact qP.trans (PY c n a k)
def Wy(c:List UInt8)(n a:Nat):aE×Nat:=(⟨eV 256,1,(kU c n a 5).1,(eV n).set (af c 6 (kU c n a 5).2).1.toNat (-1),eV n⟩,(af c 6 (kU c n a 5).2).2)
def BG(c:List UInt8)(a:Nat):aE×Nat:=Wy c (4000+(af c 2 a).1).toNat (af c 2 a).2
def Hj(N g0 g1 g2 g3:Nat):Nat->zB
 |0=>zn (za ⟨g0,0,zh⟩) 256 256
 |1=>zn (za ⟨g1,0,zh⟩) N N
 |2=>zn (za ⟨g2,0,zh⟩) N N
 |_=>zn (za ⟨g3,0,zh⟩) N N
theorem zr6{g0 g1 g2 g3:Nat}{l0 l1 l2 l3:List Int}(o0:dQ (B+1) W (zn (za ⟨g0,0,zh⟩) 256 256) l0)(o1:dQ (B+1) W (zn (za ⟨g1,0,zh⟩) N N) l1)(o2:dQ (B+1) W (zn (za ⟨g2,0,zh⟩) N N) l2)(o3:dQ (B+1) W (zn (za ⟨g3,0,zh⟩) N N) l3)(n01:g0≠g1)(n02:g0≠g2)(n03:g0≠g3)(Tk:g1≠g2)(n13:g1≠g3)(n23:g2≠g3):aS B 4 W (Hj N g0 g1 g2 g3) (L4 l0 l1 l2 l3):=by
 refine⟨λi hi=>?_,λi j hi hj hne b hb=>?_⟩
 ·match i,hi with
  |0,_=>exact o0
  |1,_=>exact o1
  |2,_=>exact o2
  |3,_=>exact o3
 ·have key:∀i,i<4->(Hj N g0 g1 g2 g3 i).ownBlock=za (if i=0 then g0 else if i=1 then g1 else if i=2 then g2 else g3):=λi hi=>by
   match i,hi with
   |0,_=>rfl
   |1,_=>rfl
   |2,_=>rfl
   |3,_=>rfl
  rw[key i hi]at hb;rw[key j hj];injection hb with hb
  intro hc;injection hc with hc
  match i,j,hi,hj,hne with
  |0,1,_,_,_=>simp at hb hc;omega
  |0,2,_,_,_=>simp at hb hc;omega
  |0,3,_,_,_=>simp at hb hc;omega
  |1,0,_,_,_=>simp at hb hc;omega
  |1,2,_,_,_=>simp at hb hc;omega
  |1,3,_,_,_=>simp at hb hc;omega
  |2,0,_,_,_=>simp at hb hc;omega
  |2,1,_,_,_=>simp at hb hc;omega
  |2,3,_,_,_=>simp at hb hc;omega
  |3,0,_,_,_=>simp at hb hc;omega
  |3,1,_,_,_=>simp at hb hc;omega
  |3,2,_,_,_=>simp at hb hc;omega
  |0,0,_,_,h=>exact absurd rfl h
  |1,1,_,_,h=>exact absurd rfl h
  |2,2,_,_,h=>exact absurd rfl h
  |3,3,_,_,h=>exact absurd rfl h
def xK(B N:Nat):Nat->zB->zx->Prop
 |0,u,W=>∃g,u=zn (za ⟨g,0,zh⟩) 256 256/\dQ (B+1) W u (eV 256)
 |1,u,_=>u=zi .i64 (N:Int)
 |2,u,W=>∃g,u=zn (za ⟨g,0,zh⟩) N N/\dQ (B+1) W u (eV N)
 |3,u,_=>u=zi .i64 (N:Int)
 |4,u,W=>∃g,u=zn (za ⟨g,0,zh⟩) N N/\dQ (B+1) W u (eV N)
 |5,u,_=>u=zi .i64 (N:Int)
 |6,u,W=>∃g,u=zn (za ⟨g,0,zh⟩) N N/\dQ (B+1) W u (eV N)
 |7,u,W=>∃g0 g1 g2 g3,u=zF #[zn (za ⟨g0,0,zh⟩) 256 256,zi .i64 1,zn (za ⟨g1,0,zh⟩) N N,zn (za ⟨g2,0,zh⟩) N N,zn (za ⟨g3,0,zh⟩) N N]/\aS B 4 W (Hj N g0 g1 g2 g3) (L4 (eV 256) (eV N) (eV N) (eV N))
 |8,u,W=>∃q,u=zD (za ⟨q,0,zh⟩)/\B<q/\W.heap[q]?=za (zp bm 25 (0,0))
 |_,_,_=>False
theorem dQ.kp{v:zB}{xs:List Int}(h:dQ (B+1) W v xs)(hk:aJ p W W')(hB:p<B):dQ (B+1) W' v xs:=Cg h λb hb=>hk.block b (eN h hb).2 (by have:=(eN h hb).1;omega)
theorem xK.keep(hk:aJ p W W')(hB:p<B):∀i u,xK B N i u W->xK B N i u W'
 |0,_,⟨g,e,h⟩=>⟨g,e,h.kp hk hB⟩
 |1,_,h=>h
 |2,_,⟨g,e,h⟩=>⟨g,e,h.kp hk hB⟩
 |3,_,h=>h
 |4,_,⟨g,e,h⟩=>⟨g,e,h.kp hk hB⟩
 |5,_,h=>h
 |6,_,⟨g,e,h⟩=>⟨g,e,h.kp hk hB⟩
 |7,_,⟨g0,g1,g2,g3,e,h⟩=>⟨g0,g1,g2,g3,e,h.keep λb aP aL=>hk.block b aL (by omega)⟩
 |8,_,⟨q,e,h1,h2⟩=>⟨q,e,h1,(hk.block q (az h2) (by omega)).trans h2⟩
 |_+9,_,h=>h
theorem xK.lt:∀i u,xK B N i u W->∀b,u.ownBlock=za b->b<W.heap.size
 |0,_,⟨g,e,h⟩,b,hb=>(eN h hb).2
 |1,_,h,b,hb=>by cases h;cases hb
 |2,_,⟨g,e,h⟩,b,hb=>(eN h hb).2
 |3,_,h,b,hb=>by cases h;cases hb
 |4,_,⟨g,e,h⟩,b,hb=>(eN h hb).2
 |5,_,h,b,hb=>by cases h;cases hb
 |6,_,⟨g,e,h⟩,b,hb=>(eN h hb).2
 |7,_,⟨g0,g1,g2,g3,e,h⟩,b,hb=>by subst e;cases hb
 |8,_,⟨q,e,h1,h2⟩,b,hb=>by subst e;cases hb
 |_+9,_,h,_,_=>h.elim
theorem zod(a0 a1 a2 a3:Option Addr)(n0 n1 n2 n3 c0 c1 c2 c3:Nat):prog.built 25 [(1,zi .i64 1),(0,.slice a0 n0 c0),(2,.slice a1 n1 c1),(3,.slice a2 n2 c2),(4,.slice a3 n3 c3)]=za #[.slice a0 n0 c0,zi .i64 1,.slice a1 n1 c1,.slice a2 n2 c2,.slice a3 n3 c3]:=by kernel_rfl
theorem zrl{ρ:Operand->zB}{o:Oper}{x y z t:Operand}(ho:o.op=.build 25 #[(1,.const (zi .i64 1)),(0,x),(2,y),(3,z),(4,t)])(h1:ρ (.const (zi .i64 1))=zi .i64 1){a0 a1 a2 a3:Option Addr}{n0 n1 n2 n3 c0 c1 c2 c3:Nat}(hx:ρ x=.slice a0 n0 c0)(hy:ρ y=.slice a1 n1 c1)(hz:ρ z=.slice a2 n2 c2)(ht:ρ t=.slice a3 n3 c3)(w:zx):(execOp ρ o).run prog w=.ok (.value (zF #[.slice a0 n0 c0,zi .i64 1,.slice a1 n1 c1,.slice a2 n2 c2,.slice a3 n3 c3])) w:=by
 obtain⟨dst,op,type,pos,after,guard⟩:=o;simp only at ho;subst ho;have:=run_build (P:=prog) w 25 #[(1,zi .i64 1),(0,.slice a0 n0 c0),(2,.slice a1 n1 c1),(3,.slice a2 n2 c2),(4,.slice a3 n3 c3)] _ (zod a0 a1 a2 a3 n0 n1 n2 n3 c0 c1 c2 c3);simp[execOp,h1,hx,hy,hz,ht,this,Result.andThen]
theorem zoa(w:zx)(p:Nat)(c:List UInt8)(a:Nat)(r:Int)(h:a7 w p c a r):
  zG prog 18 #[zD (za ⟨p,0,zh⟩)] w (xA p w c (BG c a).1 (BG c a).2 r):=by
 have du:prog.follows .mixedOrders=true:=by kernel_rfl
 have dz:=h.lt;obtain⟨W0,ay⟩:∃W0,w.alloc (zp bm 25)=W0:=⟨_,rfl⟩;have aG:zy w.heap.size w W0:=by rw[<-ay];exact aC
 have x0:W0.heap[w.heap.size]?=za (zp bm 25 (0,0)):=by rw[<-ay];exact aU _ _
 have HP:=aB λW a hW (n:Int) (hn:n<=65536)=>uq W p c a r hW n hn
 have h2:=HP.out W0 a (h.keep λk hk=>aG.block k (by omega)) 2 (by omega);have HF:zw (BG c a=Wy c (4000+(af c 2 a).1).toNat (af c 2 a).2):=rfl;have dT:=ku h.le 2;obtain⟨x2,y2,mR⟩:∃x y,af c 2 a=(x,y):=⟨_,_,rfl⟩;rw[mR]at h2 HF dT;obtain⟨N,hN⟩:∃N:Nat,4000+x2=(N:Int):=⟨(4000+x2).toNat,by have:=dT.2.1;simp only at this;omega⟩;have Da:4000<=N/\N<=4001:=by have h1:=dT.2.1;have h3:=dT.2.2;simp only at h1 h3;omega
 have HF:zw (BG c a=Wy c N y2):=by rw[hN]at HF;exact HF.out
 unfold bm at ay;clear dT mR
 go_enter func18,ntmps18
 go_wp2_with fail
 refine h2.mono ?_;rintro e w1 ⟨rfl,eZ,cK⟩;have k1:=(aJ.of (p:=p) aG).trans cK;have X1:w1.heap[w.heap.size]?=za (zp bm 25 (0,0)):=(cK.block _ (az x0) (by omega)).trans x0;have pg:=az X1;clear h2 aG cK ay x0
 go_upto_region 2 with fail
 refine zfp 9 [(0,9),(1,10),(2,11),(3,12),(4,13),(5,14),(6,15),(7,16),(8,4)] (λ_ W=>aJ p w1 W/\a7 W p c y2 r)
  (xK w.heap.size N)
  du (by kernel_rfl) (by kernel_rfl) rfl ?_ ?_ ?_ ?_ ?_ ?_ ?_ ?_
 ·intro q hq;show q.2<37;simp only[tn,List.not_mem_nil,or_false]at hq;rcases hq with rfl|rfl|rfl|rfl|rfl|rfl|rfl|rfl|rfl<;>decide
 ·decide
 ·decide
 ·intro q hq;simp only[tn,List.not_mem_nil,or_false]at hq;rcases hq with rfl|rfl|rfl|rfl|rfl|rfl|rfl|rfl|rfl<;>decide
 ·exact⟨(aJ.refl _ _).drew,eZ.keep λ_ _=>rfl⟩
 ·exact λi u W=>xK.lt i u
 ·intro l a W i o hJ hi ho hl oo;obtain⟨kX,kW⟩:=hJ.inv;have Fj:=kX.size
  match i,hi,ho with
  |0,_,ho=>
   cases ho
   refine PQ (n:=256) rfl (by omega) rfl rfl (w.heap.size+1) (by omega) rfl λW' h2 h3=>?_
   have bP:aJ p W W':=(aJ.refl _ _).grown h3 (λb hb=>by cases hb);exact⟨⟨kX.trans bP,kW.grown h3 (λb hb=>by cases hb)⟩,λj u=>xK.keep bP (by omega) j u,9,_,by simp,rfl,⟨_,rfl,h2⟩,λb hb=>by cases hb;exact ax _⟩
  |1,_,ho=>
   cases ho
   have e0:a.eval (.tmp 3)=zi .i64 (N:Int):=hJ.act.ev 3 (by decide);refine Ch (TZ rfl W) rfl ⟨⟨kX,kW⟩,λ_ _ h=>h,10,_,by simp,rfl,e0,λb hb=>?_⟩;rw[e0]at hb;cases hb
  |2,_,ho=>
   cases ho
   have e0:a.eval (.tmp 10)=zi .i64 (N:Int):=hJ.val (1,10) (by simp) (oo 1 (by decide));refine PQ (n:=N) rfl (by omega) e0 e0 (w.heap.size+1) (by omega) rfl λW' h2 h3=>?_
   have bP:aJ p W W':=(aJ.refl _ _).grown h3 (λb hb=>by cases hb);exact⟨⟨kX.trans bP,kW.grown h3 (λb hb=>by cases hb)⟩,λj u=>xK.keep bP (by omega) j u,11,_,by simp,rfl,⟨_,rfl,h2⟩,λb hb=>by cases hb;exact ax _⟩
  |3,_,ho=>
   cases ho
   have e0:a.eval (.tmp 3)=zi .i64 (N:Int):=hJ.act.ev 3 (by decide);refine Ch (TZ rfl W) rfl ⟨⟨kX,kW⟩,λ_ _ h=>h,12,_,by simp,rfl,e0,λb hb=>?_⟩;rw[e0]at hb;cases hb
  |4,_,ho=>
   cases ho
   have e0:a.eval (.tmp 12)=zi .i64 (N:Int):=hJ.val (3,12) (by simp) (oo 3 (by decide));refine PQ (n:=N) rfl (by omega) e0 e0 (w.heap.size+1) (by omega) rfl λW' h2 h3=>?_
   have bP:aJ p W W':=(aJ.refl _ _).grown h3 (λb hb=>by cases hb);exact⟨⟨kX.trans bP,kW.grown h3 (λb hb=>by cases hb)⟩,λj u=>xK.keep bP (by omega) j u,13,_,by simp,rfl,⟨_,rfl,h2⟩,λb hb=>by cases hb;exact ax _⟩
  |5,_,ho=>
   cases ho
   have e0:a.eval (.tmp 3)=zi .i64 (N:Int):=hJ.act.ev 3 (by decide);refine Ch (TZ rfl W) rfl ⟨⟨kX,kW⟩,λ_ _ h=>h,14,_,by simp,rfl,e0,λb hb=>?_⟩;rw[e0]at hb;cases hb
  |6,_,ho=>
   cases ho
   have e0:a.eval (.tmp 14)=zi .i64 (N:Int):=hJ.val (5,14) (by simp) (oo 5 (by decide));refine PQ (n:=N) rfl (by omega) e0 e0 (w.heap.size+1) (by omega) rfl λW' h2 h3=>?_
   have bP:aJ p W W':=(aJ.refl _ _).grown h3 (λb hb=>by cases hb);exact⟨⟨kX.trans bP,kW.grown h3 (λb hb=>by cases hb)⟩,λj u=>xK.keep bP (by omega) j u,15,_,by simp,rfl,⟨_,rfl,h2⟩,λb hb=>by cases hb;exact ax _⟩
  |7,_,ho=>
   cases ho
   obtain⟨g0,e0,o0⟩:∃g,a.eval (.tmp 9)=zn (za ⟨g,0,zh⟩) 256 256/\dQ (w.heap.size+1) W (a.eval (.tmp 9)) (eV 256):=hJ.val (0,9) (by simp) (oo 0 (by decide));obtain⟨g1,e1,o1⟩:∃g,a.eval (.tmp 11)=zn (za ⟨g,0,zh⟩) N N/\dQ (w.heap.size+1) W (a.eval (.tmp 11)) (eV N):=hJ.val (2,11) (by simp) (oo 2 (by decide));obtain⟨g2,e2,o2⟩:∃g,a.eval (.tmp 13)=zn (za ⟨g,0,zh⟩) N N/\dQ (w.heap.size+1) W (a.eval (.tmp 13)) (eV N):=hJ.val (4,13) (by simp) (oo 4 (by decide));obtain⟨g3,e3,o3⟩:∃g,a.eval (.tmp 15)=zn (za ⟨g,0,zh⟩) N N/\dQ (w.heap.size+1) W (a.eval (.tmp 15)) (eV N):=hJ.val (6,15) (by simp) (oo 6 (by decide));have ap:∀i j k l gi gj ni nj,(i,k)∈[(0,9),(1,10),(2,11),(3,12),(4,13),(5,14),(6,15),(7,16),(8,4)]->(j,l)∈[(0,9),(1,10),(2,11),(3,12),(4,13),(5,14),(6,15),(7,16),(8,4)]->i∈C4 .any _->j∈C4 .any _->i≠j->a.eval (.tmp k)=zn (za ⟨gi,0,zh⟩) ni ni->a.eval (.tmp l)=zn (za ⟨gj,0,zh⟩) nj nj->gi≠gj:=λi j k l gi gj ni nj h1 h2 h3 h4 h5 h6 h7 h8=>hJ.apart (i,k) h1 (j,l) h2 (oo i h3) (oo j h4) (λe=>h5 (congrArg Prod.fst e)) gi (by rw[h6];rfl) (by rw[h7,h8];rfl)
   have n01:=ap 0 2 9 11 g0 g1 256 N (by simp) (by simp) (by decide) (by decide) (by decide) e0 e1;have n02:=ap 0 4 9 13 g0 g2 256 N (by simp) (by simp) (by decide) (by decide) (by decide) e0 e2;have n03:=ap 0 6 9 15 g0 g3 256 N (by simp) (by simp) (by decide) (by decide) (by decide) e0 e3;have Tk:=ap 2 4 11 13 g1 g2 N N (by simp) (by simp) (by decide) (by decide) (by decide) e1 e2;have n13:=ap 2 6 11 15 g1 g3 N N (by simp) (by simp) (by decide) (by decide) (by decide) e1 e3;have n23:=ap 4 6 13 15 g2 g3 N N (by simp) (by simp) (by decide) (by decide) (by decide) e2 e3;rw[e0]at o0;rw[e1]at o1;rw[e2]at o2;rw[e3]at o3;exact Ch (zrl rfl rfl e0 e1 e2 e3 W) rfl ⟨⟨kX,kW⟩,λ_ _ h=>h,16,_,by simp,rfl,⟨_,_,_,_,rfl,zr6 o0 o1 o2 o3 n01 n02 n03 Tk n13 n23⟩,λb hb=>by cases hb⟩
  |8,_,ho=>
   cases ho
   have iQ:zy W.heap.size W (W.alloc (zp bm 25)):=aC;exact Ch (ziK rfl W) rfl ⟨⟨kX.trans (.of iQ),kW.keep λk hk=>iQ.block k (by have:=kW.lt;omega)⟩,λj u=>xK.keep (.of iQ) (by omega) j u,4,_,by simp,rfl,⟨_,rfl,by omega,aU _ _⟩,λb hb=>by cases hb⟩
 ·intro l aa W o hJ ho cj;cases ho;obtain⟨kX,kW⟩:=hJ.inv;obtain⟨u9,v9⟩:∃u,aa.eval (.tmp 9)=u:=⟨_,rfl⟩;obtain⟨Pu,v10⟩:∃u,aa.eval (.tmp 10)=u:=⟨_,rfl⟩;obtain⟨Pv,v11⟩:∃u,aa.eval (.tmp 11)=u:=⟨_,rfl⟩;obtain⟨Pw,v12⟩:∃u,aa.eval (.tmp 12)=u:=⟨_,rfl⟩;obtain⟨Px,v13⟩:∃u,aa.eval (.tmp 13)=u:=⟨_,rfl⟩;obtain⟨Py,v14⟩:∃u,aa.eval (.tmp 14)=u:=⟨_,rfl⟩;obtain⟨Pz,v15⟩:∃u,aa.eval (.tmp 15)=u:=⟨_,rfl⟩;obtain⟨g0,g1,g2,g3,e4,Xv⟩:∃g0 g1 g2 g3,aa.eval (.tmp 16)=zF #[zn (za ⟨g0,0,zh⟩) 256 256,zi .i64 1,zn (za ⟨g1,0,zh⟩) N N,zn (za ⟨g2,0,zh⟩) N N,zn (za ⟨g3,0,zh⟩) N N]/\aS w.heap.size 4 W (Hj N g0 g1 g2 g3) (L4 (eV 256) (eV N) (eV N) (eV N)):=hJ.val (7,16) (by simp) (cj 7 (by omega));obtain⟨q,e5,hq,yK⟩:∃q,aa.eval (.tmp 4)=zD (za ⟨q,0,zh⟩)/\w.heap.size<q/\W.heap[q]?=za (zp bm 25 (0,0)):=hJ.val (8,4) (by simp) (cj 8 (by omega));refine zkV (ziL rfl e5 e4 yK) rfl ?_;have ha:=ziR [(9,u9),(10,Pu),(11,Pv),(12,Pw),(13,Px),(14,Py),(15,Pz),(16,zF #[zn (za ⟨g0,0,zh⟩) 256 256,zi .i64 1,zn (za ⟨g1,0,zh⟩) N N,zn (za ⟨g2,0,zh⟩) N N,zn (za ⟨g3,0,zh⟩) N N]),(4,zD (za ⟨q,0,zh⟩))] _ aa hJ.act (by
   intro x hx;simp only[tn,List.not_mem_nil,or_false]at hx;rcases hx with rfl|rfl|rfl|rfl|rfl|rfl|rfl|rfl|rfl
   ·exact⟨(by decide:9<37),v9⟩
   ·exact⟨(by decide:10<37),v10⟩
   ·exact⟨(by decide:11<37),v11⟩
   ·exact⟨(by decide:12<37),v12⟩
   ·exact⟨(by decide:13<37),v13⟩
   ·exact⟨(by decide:14<37),v14⟩
   ·exact⟨(by decide:15<37),v15⟩
   ·exact⟨(by decide:16<37),e4⟩
   ·exact⟨(by decide:4<37),e5⟩)
  rw[ha];have yw:fJ p w w.heap.size w.heap.size q (dJ W q (zn (za ⟨g0,0,zh⟩) 256 256) (zi .i64 1) (zn (za ⟨g1,0,zh⟩) N N) (zn (za ⟨g2,0,zh⟩) N N) (zn (za ⟨g3,0,zh⟩) N N)) 1 (Hj N g0 g1 g2 g3) (L4 (eV 256) (kU c N y2 0).1 (eV N) (eV N)):=by
   have ff:=zjv (wd:=1) (v:=Hj N g0 g1 g2 g3) (show W.heap[q]?=za (zp #[_,_,_,_,_] _ _) from yK);refine⟨Xv.sI λi hi b hb=>A4 λe=>?_,ff,(A4 (by omega)).trans ((kX.block _ pg (by omega)).trans X1),P4 (k1.trans kX) (by omega) _ _ _ _ _,by omega⟩;obtain⟨a9,hc⟩:=jx (Xv.own i hi) hb;rw[e,yK]at hc;exact absurd (er hc) (by decide)
  have Im:a7 (dJ W q (zn (za ⟨g0,0,zh⟩) 256 256) (zi .i64 1) (zn (za ⟨g1,0,zh⟩) N N) (zn (za ⟨g2,0,zh⟩) N N) (zn (za ⟨g3,0,zh⟩) N N)) p c (kU c N y2 0).2 r:=kW.keep λk hk=>A4 (by omega)
  generalize dJ W q (zn (za ⟨g0,0,zh⟩) 256 256) (zi .i64 1) (zn (za ⟨g1,0,zh⟩) N N) (zn (za ⟨g2,0,zh⟩) N N) (zn (za ⟨g3,0,zh⟩) N N)=W3 at yw Im ⊢;have HV:∃v,zw (v=Hj N g0 g1 g2 g3):=⟨_,rfl⟩;obtain⟨v,HV⟩:=HV;rw[<-HV.out]at yw;have rZ:zw (v 1=zn (za ⟨g1,0,zh⟩) N N):=by rw[HV.out];exact rfl
  have qm:zw (v 2=zn (za ⟨g2,0,zh⟩) N N):=by rw[HV.out];exact rfl
  have aP:=eN (yw.aq.own 1 (by omega)) (b:=g1) (by rw[rZ.out];rfl);have aL:=eN (yw.aq.own 2 (by omega)) (b:=g2) (by rw[qm.out];rfl);clear hJ cj kX kW e4 e5 Xv yK ha v9 v10 v11 v12 v13 v14 v15 HV X1 pg k1 eZ;simp only[List.foldl_cons,List.foldl_nil,Act.put,zv,zz,zt];have Bs:=aB yw;have EF:=aB Im;clear yw Im;go_wp2
  go_loopw [5] (λi wr=>∃k:Nat,k<=5/\i=zi .i64 k/\fJ p w w.heap.size w.heap.size q wr 1 v (L4 (eV 256) (kU c N y2 k).1 (eV N) (eV N))/\a7 wr p c (kU c N y2 k).2 r) (λi _=>5-(intOf i).toNat)
  case atStart=>exact⟨0,by omega,rfl,Bs.out,EF.out⟩
  case round=>
   clear Bs EF;obtain⟨k,pS,rfl,hS,hC⟩:=hrel;have HS:=aB hS;have HC:=aB hC;clear hS hC
   by_cases hlt:k<5
   ·have Dt:(k:Int)<5:=by omega
    have x0:∀s:fD p wr,s.W.cell? ⟨q,2,zh⟩=za (zn (za ⟨g1,0,zh⟩) N N):=λs=>by rw[<-rZ.out];exact(cE (HS.out.kp s.h).box).2.2.1
    have i0:(0:Int)<=(k:Int):=by omega
    have i1:(k:Int)<(N:Int):=by omega
    have Dr:=ku HC.out.le 3;have fo:=aB (HP.out wr.drew _ (HC.out.keep λ_ _=>rfl) 3 (by omega));obtain⟨y,a',hy⟩:∃y a',af c 3 (kU c N y2 k).2=(y,a'):=⟨_,_,rfl⟩;have HN:zw (kU c N y2 (k+1)=((kU c N y2 k).1.set k (((k:Int)+1+y)%6),a')):=by show _=_;rw[kU,hy]
    rw[hy]at fo Dr;have hy0:0<=y:=Dr.2.1;have hy1:y<3:=by have:=Dr.2.2;simp only at this;omega
    clear Dr hy
    go_upto_region 6 with fail
    refine ul [0,1,2,3,4,5] [6,7,8,9,10] 9 (λw'=>∃s:fD p wr,w'=s.W) (λw'=>w'=World.drew wr) du ⟨⟨World.drew wr,(aJ.refl _ _).drew⟩,rfl⟩ rfl (by kernel_rfl) ?_;intro os aX;simp only[jL,jM,jO,jN]at aX;subst aX
    change wpQuiet _ _ _ _ [_,_,_,_,_,_] _
    repeat (go_big_quiet_step (fail))
    refine wpQuiet_nil ?_;rintro w' rfl r' di;simp only[jL,jM,jO,jN,qS]at di;subst di;clear x0;refine lV rfl (λK5 bh=>?_);refine xo 27 #[.tmp 26,.const (zi .i64 3)] #[32,3] (by rfl) #[zD (za ⟨p,0,zh⟩),zi .i64 3] (by simp[Act.eval]) (λv w'=>v=zi .i64 y/\a7 w' p c a' r/\aJ p (World.drew wr) w') (yY _ _) (fo.out.mono (by
     rintro e w1 ⟨rfl,h1⟩;exact⟨_,rfl,rfl,h1⟩)) ?_
    rintro v8 W8 ⟨rfl,mN,k6⟩;have fB:aJ p wr W8:=(aJ.refl _ _).drew.trans k6;refine bh _ _ (λ_=>⟨⟨_,fB⟩,rfl⟩) ?_;clear bh K5 fo;have dg:=aB (HS.out.kp fB);obtain⟨gQ,kY⟩:=dg.out.at (i:=1) (by omega) rZ.out;rw[show L4 (eV 256) (kU c N y2 k).1 (eV N) (eV N) 1=(kU c N y2 k).1 from rfl,PY]at gQ;have u8:=gQ k (by omega);have f8:=kY k;have hem:((k:Int)+1+y)%6=((k:Int)+1+y)%6:=rfl;clear gQ kY;simp only[Act.put,zv,zz,zt];refine lV rfl (λK5 bh=>?_)
    first|go_big_move|go_big_op
    refine bh _ _ (λ_=>⟨⟨_,fB⟩,rfl⟩) ?_;clear bh K5;refine lV rfl (λK5 bh=>?_)
    first|go_big_move|go_big_op
    refine bh _ _ (λ_=>⟨⟨_,fB⟩,rfl⟩) ?_;clear bh K5;refine um (by simp) (λ_ _ h=>h) ?_
    change wpList _ _ _ [_,_] _ _
    go_wp2;rw[oJ];go_wp2
    go_roundw
    case rel=>
     refine⟨k+1,by omega,by go_num,?_,?_⟩
     ·rw[HN.out];exact(dg.out.put (i:=1) (by omega) rZ.out (PY _ _ _ _) k _).to rfl rfl rfl rfl
     ·rw[HN.out];exact mN.put (by omega) _ _
    case measure=>simp[intOf];omega
   ·have zxn:k=5:=by omega
    have eK:¬(k:Int)<5:=by omega
    rw[zxn]at HS HC;clear zxn hlt pS;have HG:zw (BG c a=(⟨eV 256,1,(kU c N y2 5).1,(eV N).set (af c 6 (kU c N y2 5).2).1.toNat (-1),eV N⟩,(af c 6 (kU c N y2 5).2).2)):=HF.out;have x0:∀s:fD p wr,s.W.cell? ⟨q,3,zh⟩=za (zn (za ⟨g2,0,zh⟩) N N):=λs=>by rw[<-qm.out];exact(cE (HS.out.kp s.h).box).2.2.2.1
    have Dr:=ku HC.out.le 6;have fo:=aB (HP.out wr.drew _ (HC.out.keep λ_ _=>rfl) 6 (by omega));obtain⟨y,a',hy⟩:∃y a',af c 6 (kU c N y2 5).2=(y,a'):=⟨_,_,rfl⟩;rw[hy]at fo Dr HG;obtain⟨m,rfl⟩:∃m:Nat,y=(m:Int):=⟨y.toNat,by have:=Dr.2.1;simp only at this;omega⟩;have yI:m<6:=by have:=Dr.2.2;simp only at this;omega
    have i0:(0:Int)<=(m:Int):=by omega
    have i1:(m:Int)<(N:Int):=by omega
    clear Dr hy
    go_upto_region 7 with fail
    refine ul [0,1,2] [3,4,5] 4 (λw'=>∃s:fD p wr,w'=s.W) (λw'=>w'=World.drew wr) du ⟨⟨World.drew wr,(aJ.refl _ _).drew⟩,rfl⟩ rfl (by kernel_rfl) ?_;intro os aX;simp only[jL,jM,jO,jN]at aX;subst aX
    change wpQuiet _ _ _ _ [_,_,_] _
    repeat (go_big_quiet_step (fail))
    refine wpQuiet_nil ?_;rintro w' rfl r' di;simp only[jL,jM,jO,jN,qS]at di;subst di;clear x0;refine lV rfl (λK5 bh=>?_);refine xo 27 #[.tmp 33,.const (zi .i64 6)] #[32,3] (by rfl) #[zD (za ⟨p,0,zh⟩),zi .i64 6] (by simp[Act.eval]) (λv w'=>v=zi .i64 (m:Int)/\a7 w' p c a' r/\aJ p (World.drew wr) w') (yY _ _) (fo.out.mono (by
     rintro e w1 ⟨rfl,h1⟩;exact⟨_,rfl,rfl,h1⟩)) ?_
    rintro v8 W8 ⟨rfl,mN,k6⟩;have fB:aJ p wr W8:=(aJ.refl _ _).drew.trans k6;refine bh _ _ (λ_=>⟨⟨_,fB⟩,rfl⟩) ?_;clear bh K5 fo;have dg:=aB (HS.out.kp fB);obtain⟨gQ,kY⟩:=dg.out.at (i:=2) (by omega) qm.out;rw[show L4 (eV 256) (kU c N y2 5).1 (eV N) (eV N) 2=eV N from rfl,D5]at gQ;have u8:=gQ m (by omega);have f8:=kY m;have eL:=aB ((dg.out.put (i:=2) (by omega) qm.out (D5 _) m (-1)).to (a:=eV 256) (b:=(kU c N y2 5).1) (c:=(eV N).set m (-1)) (d:=eV N) rfl rfl rfl rfl);have mE:=aB (mN.put (b:=g2) (by omega) m (zi .i64 (-1)));clear gQ kY;refine um (by simp) (λ_ _ h=>h) ?_
    change wpList _ _ _ [_,_] _ _
    go_wp2;rw[oJ];generalize hU:W8.setCell ⟨g2,m,zh⟩ (zi .i64 (-1))=U at *;obtain⟨⟨a0,c0⟩,mK⟩:=cJ (eL.out.aq.own 0 (by omega));obtain⟨⟨a1,c1⟩,pK⟩:=cJ (eL.out.aq.own 1 (by omega));obtain⟨⟨a2,c2⟩,jo⟩:=cJ (eL.out.aq.own 2 (by omega));obtain⟨⟨a3,c3⟩,ig⟩:=cJ (eL.out.aq.own 3 (by omega));have HE:=aB (eL.out.done mE.out (by
     intro i hi
     match i,hi with
     |0,_=>show (eV 256).length<=_;rw[D5];omega
     |1,_=>show (kU c N y2 5).1.length<=_;rw[PY];omega
     |2,_=>show ((eV N).set m (-1)).length<=_;rw[qP,D5];omega
     |3,_=>show (eV N).length<=_;rw[D5];omega))
    obtain⟨b0,b1,b2,b3,b4⟩:=cE eL.out.box;have io:=eL.out.dv;have r0:=aR _ _ 0 _ _ io;have r1:=aR _ _ 1 _ _ io;have r2:=aR _ _ 2 _ _ io;have r3:=aR _ _ 3 _ _ io;have r4:=aR _ _ 4 _ _ io;unfold bm at io;obtain⟨z0,z1,z2,z3,z4⟩:=bL io;simp only at mK pK jo ig;rw[mK,pK,jo,ig]at HE;rw[mK]at b0;rw[pK]at b2;rw[jo]at b3;rw[ig]at b4;clear io mK pK jo ig
    skip
    go_wp2;refine bw (v:=_) (by simp[results,results18,go_sem,z0,z1,z2,z3,z4];rfl) rfl ?_;rw[HG.out];exact⟨_,_,_,_,rfl,HE.out⟩
end
section
variable {c:List UInt8}{lo b:Nat}{W:zx}{cv nv tv ev:zB}{d:aE}
noncomputable def BJ (rs:List dC):Int×Int×(Nat->List Int):=((Ua rs 90).choose,(Ua rs 90).choose_spec.choose,(Ua rs 90).choose_spec.choose_spec.choose)
theorem zrG(rs:List dC):GJ rs 90 (BJ rs).1 (BJ rs).2.1 (BJ rs).2.2:=(Ua rs 90).choose_spec.choose_spec.choose_spec
structure DwD where
 d:aE
 a:Nat
 r:Int
noncomputable def NE (c:List UInt8) (code width:Int) (l:Nat->List Int) (a:Nat):aE×Nat:=if code≠0\/100<width then nR c a else (⟨l 0,width,l 1,l 2,l 3⟩,a)
noncomputable def H5 (c:List UInt8) (how:Int) (b:aE×Nat):aE×Nat:=if 3<=how then b else if how=2 then uU c (nR c b.2).1 (nR c b.2).2 else uU c b.1 b.2
noncomputable def H9 (c:List UInt8) (R:Kn):aE×Nat:=NE c (BJ R.rs).1 (BJ R.rs).2.1 (BJ R.rs).2.2 R.a
noncomputable def qZ (c:List UInt8) (a:Nat) (r:Int):DwD:=
 if (af c 6 a).1=5 then ⟨(nR c (af c 6 a).2).1,(nR c (af c 6 a).2).2,r⟩
 else ⟨(H5 c (af c 6 a).1 (H9 c (nZ c 3 7 (af c 6 a).2 r))).1,(H5 c (af c 6 a).1 (H9 c (nZ c 3 7 (af c 6 a).2 r))).2,(nZ c 3 7 (af c 6 a).2 r).r⟩
theorem zrM{rs:List dC}{code width:Int}{l:Nat->List Int}(h:GJ rs 90 code width l)(a:Nat):Co (NE c code width l a).1:=by
 unfold NE;split
 ·exact Qk c a
 ·rename_i hn
  have e:code=0:=Classical.byContradiction λe=>hn (.inl e)
  subst e;exact zno h (by omega)
theorem zow(c:List UInt8)(a:Nat)(r:Int):cL (qZ c a r).d/\(qZ c a r).d.next.length<=65536:=by
 unfold qZ;split
 ·exact⟨(Qk c _).pL,(Qk c _).nx⟩
 ·have h:Co (H9 c (nZ c 3 7 (af c 6 a).2 r)).1:=zrM (zrG _) _;unfold H5;split
  ·exact⟨h.pL,h.nx⟩
  ·split
   ·exact zos (Qk c _) _
   ·exact zos h _
theorem dW.dJ{v:zB}{xs:List Int}(h:dW lo W v xs)(hb:b<lo)(u0 u1 u2 u3 u4:zB):dW lo (dJ W b u0 u1 u2 u3 u4) v xs:=by
 unfold Go.Proofs.Ytfajjdgkiilhfaa.dJ;exact((((h.same (.setCell _ hb _)).same (.setCell _ hb _)).same (.setCell _ hb _)).same (.setCell _ hb _)).same (.setCell _ hb _)
theorem dk.dJ(h:dk lo W cv nv tv ev d)(hb:b<lo)(u0 u1 u2 u3 u4:zB):dk lo (Go.Proofs.Ytfajjdgkiilhfaa.dJ W b u0 u1 u2 u3 u4) cv nv tv ev d:=⟨h.aD.dJ hb _ _ _ _ _,h.next.dJ hb _ _ _ _ _,h.tag.dJ hb _ _ _ _ _,h.fin.dJ hb _ _ _ _ _⟩
theorem dk.form(h:dk lo W cv nv tv ev d):∃a0 n0 c0 a1 n1 c1 a2 n2 c2 a3 n3 c3,cv=.slice a0 n0 c0/\nv=.slice a1 n1 c1/\tv=.slice a2 n2 c2/\ev=.slice a3 n3 c3:=by
 obtain⟨⟨a0,c0,e0,_,_⟩,⟨a1,c1,e1,_,_⟩,⟨a2,c2,e2,_,_⟩,⟨a3,c3,e3,_,_⟩⟩:=h;exact⟨a0,_,c0,a1,_,c1,a2,_,c2,a3,_,c3,e0,e1,e2,e3⟩
theorem xA.dv{p:Nat}{w:zx}{a:Nat}{r:Int}(hd:dk (w.heap.size+1) W cv nv tv ev d)(hc:a7 W p c a r)(hk:aJ p w W)(hp:p<w.heap.size):dk w.heap.size (dJ W w.heap.size cv (zi .i64 d.width) nv tv ev) cv nv tv ev d/\a7 (dJ W w.heap.size cv (zi .i64 d.width) nv tv ev) p c a r/\aJ p w (dJ W w.heap.size cv (zi .i64 d.width) nv tv ev):=
 ⟨(hd.dJ (GB _) _ _ _ _ _).low (Nat.le_succ _),hc.keep λk hk=>A4 (by omega),P4 hk (ax _) _ _ _ _ _⟩
theorem DX{g:Nat}{z0 z1 z2 z3 z4:zB}{t:TypeId}(h:W.heap[g]?=za (zp #[z0,z1,z2,z3,z4] t (0,0))):(W.cell? ⟨g,0,zh⟩=za z0/\W.cell? ⟨g,1,zh⟩=za z1/\W.cell? ⟨g,2,zh⟩=za z2/\W.cell? ⟨g,3,zh⟩=za z3/\W.cell? ⟨g,4,zh⟩=za z4)/\W.frozen? ⟨g,0,zh⟩=false/\W.frozen? ⟨g,1,zh⟩=false/\W.frozen? ⟨g,2,zh⟩=false/\W.frozen? ⟨g,3,zh⟩=false/\W.frozen? ⟨g,4,zh⟩=false:=
 ⟨bL h,aR _ _ 0 _ _ h,aR _ _ 1 _ _ h,aR _ _ 2 _ _ h,aR _ _ 3 _ _ h,aR _ _ 4 _ _ h⟩
theorem zns(w:zx)(p:Nat)(c:List UInt8)(a:Nat)(r:Int)(h:a7 w p c a r):
  zG prog 17 #[zD (za ⟨p,0,zh⟩)] w (xA p w c (qZ c a r).d (qZ c a r).a (qZ c a r).r):=by
 have dz:=h.lt;obtain⟨W0,ay⟩:∃W0,w.alloc (zp bm 25)=W0:=⟨_,rfl⟩;have aG:zy w.heap.size w W0:=by rw[<-ay];exact aC
 have x0:W0.heap[w.heap.size]?=za (zp bm 25 (0,0)):=by rw[<-ay];exact aU _ _
 have IZ:=uq W0 p c a r (h.below aG) 6 (by omega);have IJ:=uv (c:=c) (a:=a) (n:=6) (by omega);have HF:zw (qZ c a r=if (af c 6 a).1=5 then ⟨(nR c (af c 6 a).2).1,(nR c (af c 6 a).2).2,r⟩ else ⟨(H5 c (af c 6 a).1 (H9 c (nZ c 3 7 (af c 6 a).2 r))).1,(H5 c (af c 6 a).1 (H9 c (nZ c 3 7 (af c 6 a).2 r))).2,(nZ c 3 7 (af c 6 a).2 r).r⟩):=rfl;obtain⟨x6,y6,iJ⟩:∃x y,af c 6 a=(x,y):=⟨_,_,rfl⟩;rw[iJ]at IZ IJ HF;obtain⟨l60,l61⟩:=IJ;simp only at l60 l61;unfold bm at ay;clear iJ
 go_enter func17,ntmps17
 go_wp2_with fail
 refine IZ.mono ?_;rintro e w1 ⟨rfl,eZ,cK⟩;have k1:=(aJ.of (p:=p) aG).trans cK;have X1:w1.heap[w.heap.size]?=za (zp bm 25 (0,0)):=(cK.block _ (az x0) (by omega)).trans x0;have pg:=az X1;clear IZ aG x0 cK ay h
 by_cases Xf:x6=5
 ·subst Xf;have HE:=ah (HF.out.trans (ae rfl));have FI:=zhn w1 p c y6 r eZ;generalize nR c y6=rf at *;obtain⟨d,ya⟩:=rf;clear HF
  go_wp2_with fail
  refine FI.mono ?_;rintro e w2 ⟨cv,nv,tv,ev,rfl,hD,fF,bJ⟩;obtain⟨a0,n0,c0,a1,n1,c1,a2,n2,c2,a3,n3,c3,rfl,rfl,rfl,rfl⟩:=hD.form;have HA:=ah (xA.dv (w:=w) (hD.low (by omega)) fF (k1.trans bJ) dz);have X2:w2.heap[w.heap.size]?=za (zp bm 25 (0,0)):=(bJ.block _ pg (by omega)).trans X1;unfold bm at X2;obtain⟨⟨z0,z1,z2,z3,z4⟩,f0,f1,f2,f3,f4⟩:=DX X2;clear FI hD fF bJ eZ k1 X1 X2;go_wp2;refine bw (v:=_) (by simp[results,results17,go_sem,z0,z1,z2,z3,z4];rfl) rfl ?_;rw[HE.out];exact⟨_,_,_,_,rfl,HA.out⟩
 have m5:(x6==5)=false:=by simp[Xf]
 have HE:=ah (HF.out.trans (ab Xf));have Yr:=zjX w1 p c y6 r eZ 3 7 (by omega) (by omega) (by omega) (by omega);have pN:=zrG (nZ c 3 7 y6 r).rs;have Oy:=zhq c 7 (af c 3 y6).2 r (1+(af c 3 y6).1).toNat;have hN3:(1+(af c 3 y6).1).toNat<=3:=by have:=uv (c:=c) (a:=y6) (n:=3) (by omega);omega
 have Oz:MF (nZ c 3 7 y6 r).rs:=Oy.1;have SQ:(nZ c 3 7 y6 r).rs.length<=3:=cM Oy.2 hN3;have zM:zw (H9 c (nZ c 3 7 y6 r)=NE c (BJ (nZ c 3 7 y6 r).rs).1 (BJ (nZ c 3 7 y6 r).rs).2.1 (BJ (nZ c 3 7 y6 r).rs).2.2 (nZ c 3 7 y6 r).a):=rfl;generalize H9 c (nZ c 3 7 y6 r)=bR at *;generalize nZ c 3 7 y6 r=RR at *;obtain⟨rs,yr,rr⟩:=RR;simp only at Yr pN Oz SQ zM HE;generalize BJ rs=cm at *;obtain⟨code,width,l⟩:=cm;simp only at pN zM;have hsm:JG rs:=zly Oz (by omega);clear HF Oy hN3
 go_wp2_with fail
 refine Yr.mono ?_;rintro e w3 ⟨rv,rfl,hRu,eM,cP⟩
 go_wp2_with fail
 refine(zhW rv rs 90 code width l w3 (hRu.mono (bH _)) hsm (zqY hsm) pN).mono ?_;rintro e w4 ⟨gt,v,rfl,iV,nI,bZ⟩;have pk:=eM.below bZ;have k4:=(k1.trans cP).trans (.of bZ);have X4:w4.heap[w.heap.size]?=za (zp bm 25 (0,0)):=aY ((cP.block _ pg (by omega)).trans X1) bZ;have I1:=cP.size;have vg:=bZ.size;have HB:=ah (zrM (c:=c) pN yr);clear Yr pN Oz SQ hsm hRu eM cP bZ k1 X1 eZ;obtain⟨⟨a0,c0⟩,e0⟩:=cJ (nI.own 0 (by omega));obtain⟨⟨a1,c1⟩,e1⟩:=cJ (nI.own 1 (by omega));obtain⟨⟨a2,c2⟩,e2⟩:=cJ (nI.own 2 (by omega));obtain⟨⟨a3,c3⟩,e3⟩:=cJ (nI.own 3 (by omega));simp only at e0 e1 e2 e3;have zxR:fH width v=#[.slice a0 (l 0).length c0,zi .i64 width,.slice a1 (l 1).length c1,.slice a2 (l 2).length c2,.slice a3 (l 3).length c3]:=by unfold fH;rw[e0,e1,e2,e3]
 rw[zxR];have hA4:(∀i,i<4->(l i).length<=1048576)->dk (w.heap.size+1) w4 (.slice a0 (l 0).length c0) (.slice a1 (l 1).length c1) (.slice a2 (l 2).length c2) (.slice a3 (l 3).length c3) ⟨l 0,width,l 1,l 2,l 3⟩:=λhl=>by
  have hO:∀i,i<4->dW (w.heap.size+1) w4 (v i) (l i):=λi hi=>((nI.own i hi).at (by have:=hl i hi;omega)).low (by omega)
  exact⟨e0 ▸ hO 0 (by omega),e1 ▸ hO 1 (by omega),e2 ▸ hO 2 (by omega),e3 ▸ hO 3 (by omega)⟩
 have Qz:=ah hA4;clear hA4 zxR e0 e1 e2 e3 nI;generalize (l 0).length=n0 at *;generalize (l 1).length=n1 at *;generalize (l 2).length=n2 at *;generalize (l 3).length=n3 at *;obtain⟨W5,gL⟩:∃W5,w4.alloc (zp #[.slice a0 n0 c0,zi .i64 width,.slice a1 n1 c1,.slice a2 n2 c2,.slice a3 n3 c3] 25)=W5:=⟨_,rfl⟩;have cO:zy w4.heap.size w4 W5:=by rw[<-gL];exact aC
 have z5:W5.heap[w4.heap.size]?=za (zp #[.slice a0 n0 c0,zi .i64 width,.slice a1 n1 c1,.slice a2 n2 c2,.slice a3 n3 c3] 25 (0,0)):=by rw[<-gL];exact aU _ _
 have Q4:=ah (pk.below cO);have Np:=ah (k4.trans (.of cO));have r7:=ah (aY X4 cO);have GK:=ah λhl=>(Qz.out hl).below cO
 have QV:=ah z5;have ri:=az z5;have hRb:=az X4;have y1:=(bL z5).2.1;have Bp:=ah gL;clear pk k4 X4 cO Qz z5 gL I1 vg iV pg
 go_upto_region 5 with fail
 rw[Bp.out];clear Bp;generalize w4.heap.size=bt at *
 go_cut [24] from 18 to 24 (λv wx=>v=.bool (decide (code≠0\/100<width))/\wx=W5)
 case first=>
  by_cases hc:code=0
  ·subst hc
   by_cases hw:100<width
   ·go_wp2
    go_meet
    exact⟨by simp[hw],rfl⟩
   ·go_wp2
    go_meet
    exact⟨by simp[hw],rfl⟩
  ·have hc':(code != 0)=true:=by simp[hc]
   go_wp2
   go_meet
   exact⟨by simp[hc],rfl⟩
 obtain⟨rfl,DC⟩:=hcut;subst DC
 rename_i K hK
 refine hK _ _ ?_;clear hK K;obtain⟨V,hV⟩:∃V,V=wc:=⟨_,rfl⟩;subst hV
 go_cut [] from 24 to 26 (λwx=>∃a0 n0 c0 a1 n1 c1 a2 n2 c2 a3 n3 c3,wx.heap[bt]?=za (zp #[.slice a0 n0 c0,zi .i64 bR.1.width,.slice a1 n1 c1,.slice a2 n2 c2,.slice a3 n3 c3] 25 (0,0))/\dk (w.heap.size+1) wx (.slice a0 n0 c0) (.slice a1 n1 c1) (.slice a2 n2 c2) (.slice a3 n3 c3) bR.1/\a7 wx p c bR.2 rr/\aJ p w wx/\wx.heap[w.heap.size]?=za (zp bm 25 (0,0)))
 case first=>
  by_cases Ob:code≠0\/100<width
  ·rw[show decide (code≠0\/100<width)=true from decide_eq_true Ob];have HR:zw (bR=nR c yr):=zM.out.trans (ae Ob);have FI:=zhn V p c yr rr Q4.out;generalize nR c yr=rf at *;obtain⟨d,ya⟩:=rf
   go_wp2_with fail
   refine FI.mono ?_;rintro e w6 ⟨cv,nv,tv,ev,rfl,hD,Fq,ru⟩;obtain⟨b0,m0,e0,b1,m1,e1,b2,m2,e2,b3,m3,e3,rfl,rfl,rfl,rfl⟩:=hD.form;have z6:=(ru.block bt ri (by omega)).trans QV.out;have Td:=z6;have HR6:=ah (zjv (wd:=d.width) (v:=vA (.slice b0 m0 e0) (.slice b1 m1 e1) (.slice b2 m2 e2) (.slice b3 m3 e3)) z6);have HD6:=ah ((hD.dJ ri (.slice b0 m0 e0) (zi .i64 d.width) (.slice b1 m1 e1) (.slice b2 m2 e2) (.slice b3 m3 e3)).low (show w.heap.size+1<=_ by have:=Np.out.size;omega));have MN:=ah (Fq.keep (w':=dJ w6 bt (.slice b0 m0 e0) (zi .i64 d.width) (.slice b1 m1 e1) (.slice b2 m2 e2) (.slice b3 m3 e3)) λk hk=>A4 (by omega));have EB:=ah (P4 (Np.out.trans ru) (g:=bt) (by omega) (.slice b0 m0 e0) (zi .i64 d.width) (.slice b1 m1 e1) (.slice b2 m2 e2) (.slice b3 m3 e3));have CK:=ah ((A4 (W:=w6) (g:=bt) (k:=w.heap.size) (u0:=.slice b0 m0 e0) (u1:=zi .i64 d.width) (u2:=.slice b1 m1 e1) (u3:=.slice b2 m2 e2) (u4:=.slice b3 m3 e3) (by omega)).trans ((ru.block _ (az r7.out) (by omega)).trans r7.out));obtain⟨⟨q0,q1,q2,q3,q4⟩,f0,f1,f2,f3,f4⟩:=DX z6;clear FI hD Fq ru z6 Td r7 GK QV y1 Q4 Np;go_wp2
   go_meet
   rw[HR.out];exact⟨_,_,_,_,_,_,_,_,_,_,_,_,HR6.out,HD6.out,MN.out,EB.out,CK.out⟩
  ·rw[show decide (code≠0\/100<width)=false from decide_eq_false Ob];have HR:zw (bR=(⟨l 0,width,l 1,l 2,l 3⟩,yr)):=zM.out.trans (ab Ob);have lQ:Co ⟨l 0,width,l 1,l 2,l 3⟩:=by have:=HB.out;unfold NE at this;rw[ab Ob]at this;exact this
   have Ln:∀i,i<4->(l i).length<=1048576:=by
    have hn:=lQ.n;have tU:=lQ.pL.fl;have bn:=lQ.pL.cl;have iD:=lQ.nx;simp only at hn tU bn iD;intro i hi
    match i,hi with
    |0,_=>omega
    |1,_=>omega
    |2,_=>omega
    |3,_=>omega
   have QF:=ah (GK.out Ln);clear lQ Ln GK HB zM;go_wp2
   go_meet
   rw[HR.out];exact⟨_,_,_,_,_,_,_,_,_,_,_,_,QV.out,QF.out,Q4.out,Np.out,r7.out⟩
 case rest=>
  clear r7 GK QV y1 Q4 Np ri V;obtain⟨b0,m0,e0,b1,m1,e1,b2,m2,e2,b3,m3,e3,hZ,hD,hC,hk,hX⟩:=hcut;have zwQ:Co bR.1:=by rw[zM.out];exact HB.out
  have Ni:=ah zwQ;clear HB zM zwQ;obtain⟨d,yb⟩:=bR;replace hD:dk (w.heap.size+1) wc (.slice b0 m0 e0) (.slice b1 m1 e1) (.slice b2 m2 e2) (.slice b3 m3 e3) d:=hD;replace hC:a7 wc p c yb rr:=hC;have Ni:zw (Co d):=Ni.out;replace hZ:wc.heap[bt]?=za (zp #[.slice b0 m0 e0,zi .i64 d.width,.slice b1 m1 e1,.slice b2 m2 e2,.slice b3 m3 e3] 25 (0,0)):=hZ;obtain⟨q0,q1,q2,q3,q4⟩:=bL hZ;have HX:=ah hX;have hRl:=az hX
  by_cases h3:3<=x6
  ·have HG:zw (qZ c a r=⟨d,yb,rr⟩):=by have:=HE.out;unfold H5 at this;rw[ae h3]at this;exact this
   have HA:=ah (xA.dv (w:=w) hD hC hk dz);unfold bm at hX;obtain⟨⟨z0,z1,z2,z3,z4⟩,f0,f1,f2,f3,f4⟩:=DX hX;clear HE hX hD hC hk hZ HX;go_wp2;refine bw (v:=_) (by simp[results,results17,go_sem,z0,z1,z2,z3,z4];rfl) rfl ?_;rw[HG.out];exact⟨_,_,_,_,rfl,HA.out⟩
  have gJ:zw (qZ c a r=⟨(if x6=2 then uU c (nR c yb).1 (nR c yb).2 else uU c d yb).1,(if x6=2 then uU c (nR c yb).1 (nR c yb).2 else uU c d yb).2,rr⟩):=by have:=HE.out;unfold H5 at this;rw[ab h3]at this;exact this
  by_cases h2:x6=2
  ·subst h2;have HG:=gJ.out;rw[ae rfl]at HG;have FI:=zhn wc p c yb rr hC;have S5:=Qk c yb;generalize nR c yb=rf at *;obtain⟨d2,y2⟩:=rf;have HG:=ah HG;clear HE gJ q0 q1 q2 q3 q4
   go_wp2_with fail
   refine FI.mono ?_;rintro e w6 ⟨cv,nv,tv,ev,rfl,hD6,Fq,ru⟩;have hs6:=ru.size;have hpw:=hC.lt;have Dl:=zjV w6 p c y2 rr Fq cv nv tv ev d2 (hD6.low (by omega)) S5.pL S5.n S5.w
   go_wp2_with fail
   refine Dl.mono ?_;rintro e w7 ⟨cv7,nv7,tv7,ev7,rfl,Ik,Ft,vd⟩;obtain⟨a0,n0,c0,a1,n1,c1,a2,n2,c2,a3,n3,c3,rfl,rfl,rfl,rfl⟩:=Ik.form;have HA:=ah (xA.dv (w:=w) (Ik.low (by omega)) Ft ((hk.trans ru).trans vd) dz);have X7:w7.heap[w.heap.size]?=za (zp bm 25 (0,0)):=(vd.block _ (by omega) (by omega)).trans ((ru.block _ hRl (by omega)).trans hX);unfold bm at X7;obtain⟨⟨z0,z1,z2,z3,z4⟩,f0,f1,f2,f3,f4⟩:=DX X7;clear FI Dl Ik Ft vd hD6 Fq ru hX X7 HX hZ hD hC hk S5;go_wp2;refine bw (v:=_) (by simp[results,results17,go_sem,z0,z1,z2,z3,z4];rfl) rfl ?_;rw[HG.out];exact⟨_,_,_,_,rfl,HA.out⟩
  ·have HG:=gJ.out;rw[ab h2]at HG;have HG:=ah HG;have mx2:(x6==2)=false:=by simp[h2]
   have Dl:=zjV wc p c yb rr hC (.slice b0 m0 e0) (.slice b1 m1 e1) (.slice b2 m2 e2) (.slice b3 m3 e3) d (hD.low (by omega)) Ni.out.pL Ni.out.n Ni.out.w;clear HE gJ
   go_wp2_with fail
   refine Dl.mono ?_;rintro e w7 ⟨cv7,nv7,tv7,ev7,rfl,Ik,Ft,vd⟩;obtain⟨a0,n0,c0,a1,n1,c1,a2,n2,c2,a3,n3,c3,rfl,rfl,rfl,rfl⟩:=Ik.form;have HA:=ah (xA.dv (w:=w) (Ik.low (by omega)) Ft (hk.trans vd) dz);have X7:w7.heap[w.heap.size]?=za (zp bm 25 (0,0)):=(vd.block _ hRl (by omega)).trans hX;unfold bm at X7;obtain⟨⟨z0,z1,z2,z3,z4⟩,f0,f1,f2,f3,f4⟩:=DX X7;clear Dl Ik Ft vd hX X7 HX hZ hD hC hk;go_wp2;refine bw (v:=_) (by simp[results,results17,go_sem,z0,z1,z2,z3,z4];rfl) rfl ?_;rw[HG.out];exact⟨_,_,_,_,rfl,HA.out⟩
end
variable {d:aE}{c:List UInt8}
noncomputable def CZ (c:List UInt8) (a:Nat) (r:Int):aE:=
 if (rQ c a).1=1 then (qc c (qZ c (rQ c a).2 r).d (qZ c (rQ c a).2 r).a).1 else if (rQ c a).1=2 then (BG c (rQ c a).2).1 else (qZ c (rQ c a).2 r).d
theorem zic(h:cL d/\d.next.length<=65536):d.aD.length<=65536/\d.next.length<=65536/\d.tag.length<=65536/\d.fin.length<=65536:=by
 have h1:=h.1.cl;have h2:=h.1.n2;have h3:=h.1.fl;omega
theorem zl6(h:cL d/\d.next.length<=65536)(a:Nat):Ce (qc c d a).1:=by
 have hs:=zic h;unfold qc;generalize (af c 9 a).1=x;generalize (af c 9 a).2=y;have key:∀d2:aE,d2.aD.length<=65536->d2.next.length<=65536->d2.tag.length<=65536->d2.fin.length<=65537->Ce d2:=λd2 h1 h2 h3 h4=>⟨by omega,by omega,by omega,by omega⟩
 unfold spG;split
 ·exact key _ (by rw[qP];exact hs.1) hs.2.1 hs.2.2.1 (Gz hs.2.2.2)
 split
 ·exact key _ (by show (d.aD.take 255).length<=_;rw[nr];omega) hs.2.1 hs.2.2.1 (Gz hs.2.2.2)
 split
 ·exact key _ hs.1 hs.2.1 hs.2.2.1 (Gz hs.2.2.2)
 split
 ·exact key _ hs.1 (by rw[qP];exact hs.2.1) hs.2.2.1 (Gz hs.2.2.2)
 split
 ·exact key _ hs.1 hs.2.1 (by rw[qP];exact hs.2.2.1) (Gz hs.2.2.2)
 split
 ·exact key _ hs.1 hs.2.1 hs.2.2.1 (by rw[qP];exact Gz hs.2.2.2)
 split
 ·exact key _ hs.1 hs.2.1 hs.2.2.1 (by show (d.fin++[-1]).length<=_;rw[a6];have:=hs.2.2.2;show d.fin.length+1<=_;omega)
 split
 ·exact key _ hs.1 (by show (d.next.take (d.next.length-1)).length<=_;rw[nr];omega) hs.2.2.1 (Gz hs.2.2.2)
 ·exact key _ hs.1 (by rw[qP];exact hs.2.1) hs.2.2.1 (Gz hs.2.2.2)
theorem zob(c:List UInt8)(a:Nat):Ce (BG c a).1:=by
 have b:=uv (c:=c) (a:=a) (n:=2) (by omega);have hn:(4000+(af c 2 a).1).toNat<=4001:=by omega
 unfold BG;generalize (4000+(af c 2 a).1).toNat=n at *;generalize (af c 2 a).2=y;refine⟨?_,?_,?_,?_⟩
 ·show (eV 256).length<=_;rw[D5];omega
 ·show (kU c n y 5).1.length<=_;rw[PY];omega
 ·show ((eV n).set _ _).length<=_;rw[qP,D5];omega
 ·show (eV n).length<=_;rw[D5];omega
theorem zm6(c:List UInt8)(a:Nat)(r:Int):Ce (CZ c a r):=by
 unfold CZ;split
 ·exact zl6 (zow _ _ _) _
 split
 ·exact zob _ _
 ·have:=zic (zow c (rQ c a).2 r);exact⟨by omega,by omega,by omega,by omega⟩
theorem znr(w:zx)(p:Nat)(c:List UInt8)(a:Nat)(r:Int)(h:a7 w p c a r):
  zG prog 9 #[zD (za ⟨p,0,zh⟩)] w λe w'=>∃cv nv tv ev,e=.returned (zF #[cv,zi .i64 (CZ c a r).width,nv,tv,ev])/\dk w.heap.size w' cv nv tv ev (CZ c a r)/\aJ p w w':=by
 have dz:=h.lt;obtain⟨W0,ay⟩:∃W0,w.alloc (zp bm 25)=W0:=⟨_,rfl⟩;have aG:zy w.heap.size w W0:=by rw[<-ay];exact aC
 have x0:W0.heap[w.heap.size]?=za (zp bm 25 (0,0)):=by rw[<-ay];exact aU _ _
 have Lt:=zqw W0 p c a r (h.below aG);have HF:zw (CZ c a r=if (rQ c a).1=1 then (qc c (qZ c (rQ c a).2 r).d (qZ c (rQ c a).2 r).a).1 else if (rQ c a).1=2 then (BG c (rQ c a).2).1 else (qZ c (rQ c a).2 r).d):=rfl;obtain⟨x,y,hx⟩:∃x y,rQ c a=(x,y):=⟨_,_,rfl⟩;rw[hx]at Lt HF;unfold bm at ay;clear hx
 go_enter func9,ntmps9
 go_wp2_with fail
 refine Lt.mono ?_;rintro e w1 ⟨rfl,eZ,cK⟩;have k1:=(aJ.of (p:=p) aG).trans cK;have X1:w1.heap[w.heap.size]?=za (zp bm 25 (0,0)):=(cK.block _ (az x0) (by omega)).trans x0;have pg:=az X1;clear Lt aG x0 cK ay h;have Ov:=zns w1 p c y r eZ;have lQ:=zow c y r
 by_cases h1:x=1
 ·subst h1;have HE:=ah (HF.out.trans (ae rfl));generalize qZ c y r=dw at *;obtain⟨d,yd,rd⟩:=dw;clear HF
  go_wp2_with fail
  refine Ov.mono ?_;rintro e w2 ⟨cv,nv,tv,ev,rfl,R6,fF,bJ⟩;have rB:=bJ.size;have hpw:=eZ.lt;have hsp:=zl5 w2 p c yd rd fF cv nv tv ev d (R6.low (by omega)) lQ.1 lQ.2
  go_wp2_with fail
  refine hsp.mono ?_;rintro e w3 ⟨ND,AQ,tv3,ig,rfl,nH,eM,cP⟩;obtain⟨a0,n0,c0,a1,n1,c1,a2,n2,c2,a3,n3,c3,rfl,rfl,rfl,rfl⟩:=nH.form;have HA:=ah (xA.dv (w:=w) (nH.low (by omega)) eM ((k1.trans bJ).trans cP) dz);have X3:w3.heap[w.heap.size]?=za (zp bm 25 (0,0)):=(cP.block _ (by omega) (by omega)).trans ((bJ.block _ pg (by omega)).trans X1);unfold bm at X3;obtain⟨⟨z0,z1,z2,z3,z4⟩,f0,f1,f2,f3,f4⟩:=DX X3;clear Ov hsp nH eM cP R6 fF bJ X1 X3 k1 eZ lQ;go_wp2;refine bw (v:=_) (by simp[results,results9,go_sem,z0,z1,z2,z3,z4];rfl) rfl ?_;rw[HE.out];exact⟨_,_,_,_,rfl,HA.out.1,HA.out.2.2⟩
 have m1:(x==1)=false:=by simp[h1]
 by_cases h2:x=2
 ·subst h2;have HE:=ah ((HF.out.trans (ab h1)).trans (ae rfl));have Fm:=zoa w1 p c y r eZ;generalize BG c y=bf at *;obtain⟨d,yd⟩:=bf;clear HF Ov lQ
  go_wp2_with fail
  refine Fm.mono ?_;rintro e w3 ⟨ND,AQ,tv3,ig,rfl,nH,eM,cP⟩;obtain⟨a0,n0,c0,a1,n1,c1,a2,n2,c2,a3,n3,c3,rfl,rfl,rfl,rfl⟩:=nH.form;have HA:=ah (xA.dv (w:=w) (nH.low (by omega)) eM (k1.trans cP) dz);have X3:w3.heap[w.heap.size]?=za (zp bm 25 (0,0)):=(cP.block _ pg (by omega)).trans X1;unfold bm at X3;obtain⟨⟨z0,z1,z2,z3,z4⟩,f0,f1,f2,f3,f4⟩:=DX X3;clear Fm nH eM cP X1 X3 k1 eZ;go_wp2;refine bw (v:=_) (by simp[results,results9,go_sem,z0,z1,z2,z3,z4];rfl) rfl ?_;rw[HE.out];exact⟨_,_,_,_,rfl,HA.out.1,HA.out.2.2⟩
 have m2':(x==2)=false:=by simp[h2]
 have HE:=ah ((HF.out.trans (ab h1)).trans (ab h2));generalize qZ c y r=dw at *;obtain⟨d,yd,rd⟩:=dw;clear HF lQ
 go_wp2_with fail
 refine Ov.mono ?_;rintro e w3 ⟨ND,AQ,tv3,ig,rfl,nH,eM,cP⟩;obtain⟨a0,n0,c0,a1,n1,c1,a2,n2,c2,a3,n3,c3,rfl,rfl,rfl,rfl⟩:=nH.form;have HA:=ah (xA.dv (w:=w) (nH.low (by omega)) eM (k1.trans cP) dz);have X3:w3.heap[w.heap.size]?=za (zp bm 25 (0,0)):=(cP.block _ pg (by omega)).trans X1;unfold bm at X3;obtain⟨⟨z0,z1,z2,z3,z4⟩,f0,f1,f2,f3,f4⟩:=DX X3;clear Ov nH eM cP X1 X3 k1 eZ;go_wp2;refine bw (v:=_) (by simp[results,results9,go_sem,z0,z1,z2,z3,z4];rfl) rfl ?_;rw[HE.out];exact⟨_,_,_,_,rfl,HA.out.1,HA.out.2.2⟩
theorem zna(parts:Array (Nat×zB)):Instr.build 34 parts=yc 34 parts:=rfl
theorem ztH(ao:Option Addr)(n m:Nat)(W:zx):(yc 34 #[(0,.slice ao n m)]).run prog W=.ok (zF #[.slice ao n m,zi .i64 0,zi .i64 0]) W:=run_build W _ _ _ (by kernel_rfl)
attribute [local go_sem ↓] zna
def JF(w:zx)(ao:Option Addr)(c:List UInt8):Prop:=0<c.length->∃b o,ao=za ⟨b,o,zh⟩/\b<w.heap.size/\∀k,k<c.length->w.cell? ⟨b,o+k,zh⟩=za (.int .u8 ((c.getD k 0).toNat:Int))
theorem JF.below{w w':zx}{ao:Option Addr}(h:JF w ao c)(hb:zy w.heap.size w w'):JF w' ao c:=λh0=>by
 obtain⟨b,o,e,hl,hk⟩:=h h0;exact⟨b,o,e,fR hl hb.size,λk bJ=>(hb.cell (p:=⟨b,o+k,zh⟩) hl).trans (hk k bJ)⟩
theorem zgN(w:zx)(c:List UInt8)(ao:Option Addr)(cap:Nat)(hc:JF w ao c)(hlen:c.length<=1048576):
  zG prog 4 #[.slice ao c.length cap] w λe w'=>∃cv nv tv ev,e=.returned (zF #[cv,zi .i64 (CZ c 0 0).width,nv,tv,ev])/\dk w.heap.size w' cv nv tv ev (CZ c 0 0)/\zy w.heap.size w w':=by
 obtain⟨W0,ay⟩:∃W0,w.alloc (zp bm 25)=W0:=⟨_,rfl⟩;have aG:zy w.heap.size w W0:=by rw[<-ay];exact aC
 have x0:W0.heap[w.heap.size]?=za (zp bm 25 (0,0)):=by rw[<-ay];exact aU _ _
 have kI:W0.heap.size=w.heap.size+1:=by rw[<-ay];simp
 obtain⟨W1,bk⟩:∃W1,W0.alloc (zp #[.slice ao c.length cap,zi .i64 0,zi .i64 0] 34)=W1:=⟨_,rfl⟩;have aP:zy W0.heap.size W0 W1:=by rw[<-bk];exact aC
 have x1:W1.heap[w.heap.size+1]?=za (zp #[.slice ao c.length cap,zi .i64 0,zi .i64 0] 34 (0,0)):=by rw[<-kI,<-bk];exact aU _ _
 have hb:zy w.heap.size w W1:=bi aG aG.size aP;have hD:a7 W1 (w.heap.size+1) c 0 0:=by
  refine⟨⟨ao,cap,x1,λh0=>?_⟩,hlen,bH _⟩;obtain⟨b,o,e,hl,hk⟩:=hc h0;exact⟨b,o,e,by omega,λk bJ=>(hb.cell (p:=⟨b,o+k,zh⟩) hl).trans (hk k bJ)⟩
 have zwH:=znr W1 (w.heap.size+1) c 0 0 hD;have X1:=aY x0 aP;have hrC:=ztH;have bT:=aP.size;generalize CZ c 0 0=d at *;unfold bm at ay;obtain⟨n,hn⟩:∃n,c.length=n:=⟨_,rfl⟩;rw[hn]at bk ⊢;clear hn x1 x0 aG aP hD
 go_enter func4,ntmps4
 go_wp2_with fail
 refine zwH.mono ?_;rintro e w3 ⟨ND,AQ,tv3,ig,rfl,nH,cP⟩;obtain⟨a0,n0,c0,a1,n1,c1,a2,n2,c2,a3,n3,c3,rfl,rfl,rfl,rfl⟩:=nH.form;have X3:w3.heap[w.heap.size]?=za (zp bm 25 (0,0)):=(cP.block _ (az X1) (by omega)).trans X1;have HD:=ah ((nH.dJ (b:=w.heap.size) (by omega) (.slice a0 n0 c0) (zi .i64 d.width) (.slice a1 n1 c1) (.slice a2 n2 c2) (.slice a3 n3 c3)).low (show w.heap.size<=_ by omega));have yu:zy w.heap.size w w3:=⟨cP.os.trans hb.os,cP.tape.trans hb.tape,cP.output.trans hb.output,cM hb.size cP.size,λk hk=>(cP.block k (by omega) (by omega)).trans (hb.block k hk)⟩;have HB:=ah (Cc yu (ax _) (.slice a0 n0 c0) (zi .i64 d.width) (.slice a1 n1 c1) (.slice a2 n2 c2) (.slice a3 n3 c3));unfold bm at X3;obtain⟨⟨z0,z1,z2,z3,z4⟩,f0,f1,f2,f3,f4⟩:=DX X3;clear zwH nH cP X1 X3 yu hrC ay bk;go_wp2;refine bw (v:=_) (by simp[results,results4,go_sem,z0,z1,z2,z3,z4];rfl) rfl ?_;exact⟨_,_,_,_,rfl,HD.out,HB.out⟩
end Go.Proofs.Ytfajjdgkiilhfaa
