import Derived.Test.YtdimhpfiieepiaaGreatDoorC51
namespace Go.Proofs.YtdimhpfiieepiaaGreatDoor
open Proofs.Tryz
open Value renaming int->za,agg->aa,pointer->zl
open RowKit renaming Below->zb,Hid->zj
open Obj renaming cells->zc
open Option renaming some->zd,none->zk
open Go renaming World->zf,Value->zg,Calls->ab,TypeId->zm
set_option maxHeartbeats 2000000
set_option maxRecDepth 100000
section
variable {ρ:Operand -> zg}{o:Oper}{x y:Operand}{P:Program}{f:FuncId}
open Go.RowKit
theorem V7{t:zm}(ht:t=27\/t=41)(ho:o.op=.load t x){g:Nat}(hx:ρ x=zl (zd ⟨g,0,zk⟩)){w:zf}{a b c d e f h i j:zg}(r:w.heap[g]?=zd (zc #[a,b,c,d,e,f,h,i,j] t (0,0))):(execOp ρ o).run prog w=.ok (.value (aa #[a,b,c,d,e,f,h,i,j])) w:=by
 obtain⟨dst,op,type,pos,after,guard⟩:=o;simp only at ho;subst ho;obtain⟨q0,q1,q2,q3,q4,q5,q6,q7,q8⟩:=mC r;rcases ht with rfl|rfl
 ·simp[execOp,hx,go_sem,q0,q1,q2,q3,q4,q5,q6,q7,q8]
 ·simp[execOp,hx,go_sem,q0,q1,q2,q3,q4,q5,q6,q7,q8]
theorem V6(ho:o.op=.load 29 x){g:Nat}(hx:ρ x=zl (zd ⟨g,0,zk⟩)){w:zf}{a b c d e:zg}(r:w.heap[g]?=zd (zc #[a,b,c,d,e] 29 (0,0))):(execOp ρ o).run prog w=.ok (.value (aa #[a,b,c,d,e])) w:=by
 obtain⟨dst,op,type,pos,after,guard⟩:=o;simp only at ho;subst ho;obtain⟨q0,q1,q2,q3,q4⟩:=eW r;simp[execOp,hx,go_sem,q0,q1,q2,q3,q4]
theorem Wd(ho:o.op=.move x){v:zg}(hx:ρ x=v)(w:zf):(execOp ρ o).run P w=.ok (.value v) w:=by
 obtain⟨dst,op,type,pos,after,guard⟩:=o;simp only at ho;subst ho;subst hx
 rfl
theorem U5(ho:o.op=.extract x 0){u v:zg}(hx:ρ x=.tuple #[u,v])(w:zf):(execOp ρ o).run P w=.ok (.value u) w:=by
 obtain⟨dst,op,type,pos,after,guard⟩:=o;simp only at ho;subst ho;simp[execOp,hx,go_sem]
theorem U6(ho:o.op=.extract x 1){u v:zg}(hx:ρ x=.tuple #[u,v])(w:zf):(execOp ρ o).run P w=.ok (.value v) w:=by
 obtain⟨dst,op,type,pos,after,guard⟩:=o;simp only at ho;subst ho;simp[execOp,hx,go_sem]
theorem VA(ho:o.op=.alloc 32)(w:zf):(execOp ρ o).run prog w=.ok (.value (zl (zd ⟨w.heap.size,0,zk⟩))) (w.alloc (zc #[za .i64 0,.string ⟨#[]⟩,.bool false,za .i64 0,za .i64 0] 32)):=by
 obtain⟨dst,op,type,pos,after,guard⟩:=o;simp only at ho;subst ho;simp[execOp,go_sem]
theorem Vz(ho:o.op=.alloc 35)(w:zf):(execOp ρ o).run prog w=.ok (.value (zl (zd ⟨w.heap.size,0,zk⟩))) (w.alloc (zc #[za .i64 0,za .i64 0,za .i64 0,za .i64 0,.slice zk 0 0] 35)):=by
 obtain⟨dst,op,type,pos,after,guard⟩:=o;simp only at ho;subst ho;simp[execOp,go_sem]
theorem LM{ats:Array zm}(ho:o.op=.call {callee:=.value (.func f),args:=#[x],argTypes:=ats}){v:zg}(hf:ρ (.func f)=.func (.func f) #[] #[])(hx:ρ x=v)(w:zf)(pK:(callFunc f #[v]).run P w=.ok (.enter f #[v]) w):(execOp ρ o).run P w=.ok (.enter f #[v]) w:=by
 obtain⟨dst,op,type,pos,after,guard⟩:=o;simp only at ho;subst ho;subst hx;have e:execOp ρ {dst,op:=.call {callee:=.value (.func f),args:=#[x],argTypes:=ats},type,pos,after,guard}=callFunc f (#[]++#[x].map ρ++#[]):=by
  show (do let d <-Deferred.ofValue (ρ (.func f)) (#[x].map ρ);invoke d.target d.args)=_;rw[hf]
  rfl
 rw[e]
 simpa using pK
theorem V3{ats:Array zm}(ho:o.op=.call {callee:=.value (.func f),args:=#[x,y],argTypes:=ats}){u v:zg}(hf:ρ (.func f)=.func (.func f) #[] #[])(hx:ρ x=u)(hy:ρ y=v)(w:zf)(pK:(callFunc f #[u,v]).run P w=.ok (.enter f #[u,v]) w):(execOp ρ o).run P w=.ok (.enter f #[u,v]) w:=by
 obtain⟨dst,op,type,pos,after,guard⟩:=o;simp only at ho;subst ho;subst hx;subst hy;have e:execOp ρ {dst,op:=.call {callee:=.value (.func f),args:=#[x,y],argTypes:=ats},type,pos,after,guard}=callFunc f (#[]++#[x,y].map ρ++#[]):=by
  show (do let d <-Deferred.ofValue (ρ (.func f)) (#[x,y].map ρ);invoke d.target d.args)=_;rw[hf]
  rfl
 rw[e]
 simpa using pK
theorem VC(ho:o.op=.store 32 x y){g:Nat}{s:eE}(hx:ρ x=zl (zd ⟨g,0,zk⟩))(hy:ρ y=iN s){w:zf}{a b c d e:zg}(r:w.heap[g]?=zd (zc #[a,b,c,d,e] 32 (0,0))):(execOp ρ o).run prog w=.ok .skip (qJ w g (za .i64 s.L) (.string s.B) (.bool s.C) (za .i64 s.S) (za .i64 s.N)):=by
 obtain⟨dst,op,type,pos,after,guard⟩:=o;simp only at ho;subst ho;obtain⟨q0,q1,q2,q3,q4⟩:=eW r;have f0:=cF _ _ 0 _ _ r;have f1:=cF _ _ 1 _ _ r;have f2:=cF _ _ 2 _ _ r;have f3:=cF _ _ 3 _ _ r;have f4:=cF _ _ 4 _ _ r;unfold iN at hy;simp[execOp,hx,hy,go_sem,q0,q1,q2,q3,q4,f0,f1,f2,f3,f4,qJ]
theorem VB(ho:o.op=.store 35 x y){g:Nat}{z:ku}{so:Option Addr}{sm sc:Nat}(hx:ρ x=zl (zd ⟨g,0,zk⟩))(hy:ρ y=jq z (.slice so sm sc)){w:zf}{a b c d e:zg}(r:w.heap[g]?=zd (zc #[a,b,c,d,e] 35 (0,0))):(execOp ρ o).run prog w=.ok .skip (qJ w g (za .i64 z.kind) (za .i64 z.rule) (za .i64 z.start) (za .i64 z.fin) (.slice so sm sc)):=by
 obtain⟨dst,op,type,pos,after,guard⟩:=o;simp only at ho;subst ho;obtain⟨q0,q1,q2,q3,q4⟩:=eW r;have f0:=cF _ _ 0 _ _ r;have f1:=cF _ _ 1 _ _ r;have f2:=cF _ _ 2 _ _ r;have f3:=cF _ _ 3 _ _ r;have f4:=cF _ _ 4 _ _ r;unfold jq at hy;simp[execOp,hx,hy,go_sem,q0,q1,q2,q3,q4,f0,f1,f2,f3,f4,qJ]
end
theorem zlJ{lo:Nat}(ao:Option Addr)(rc:Nat)(cv bv fv tv ev nv kv:zg)(rs:List bL)(d:bG)(s:eE)(w:zf)(hr:gZ lo w (.slice ao rs.length rc) rs)(hsm:qM rs)(hs:eN lo w cv bv fv tv ev nv kv d):
  ab prog 7 #[aa #[.slice ao rs.length rc,cv,za .i64 d.width,bv,fv,tv,ev,nv,kv],iN s] w λe w'=>∃s' x,oN rs d s s' x/\Jo w s' x e w':=by
 cases hB:qe rs d s
 ·exact(zko ao rc cv bv fv tv ev nv kv rs d s w hr hsm hs hB).mono λe w' h=>⟨_,_,.inl ⟨hB,rfl,rfl⟩,h⟩
 ·obtain⟨L,B,C,S,N⟩:=s;obtain⟨-,-,-,-,-,-,-,h0,-⟩:=ER hB;obtain⟨n,rfl⟩:∃n:Nat,N=n:=⟨N.toNat,by dsimp only at h0;omega⟩;exact zlI ao rc cv bv fv tv ev nv kv rs d L B C S n w hr hsm hs hB
section
variable {lo T l1 l2:Nat}{W:zf}{cv bv fv tv ev nv kv:zg}{d:bG}
open Go.RowKit
attribute [local go_sem ↓] wp_at_zero wp_at_succ
theorem ew.kF{w:zf}(h:ew lo T w W):aE (λk=>lo<=k/\k<T) w W:=⟨h.os,h.tape,h.output,h.size,λk hk hn=>h.out k hk (by omega)⟩
structure zS(lo T:Nat)(w:zf)(cv bv fv tv ev nv kv:zg)(d:bG):Prop where
 ci:rj lo T w cv d.ci.length
 base:rj lo T w bv d.base.length
 bQ:rj lo T w fv d.bQ.length
 tag:rj lo T w tv d.tag.length
 fin:rj lo T w ev d.fin.length
 next:rj lo T w nv d.next.length
 a8:rj lo T w kv d.a8.length
theorem zS.mk'{w:zf}(h:zS lo T w cv bv fv tv ev nv kv d)(k:ew lo T w W):zS lo T W cv bv fv tv ev nv kv d:=⟨h.1.mk k,h.2.mk k,h.3.mk k,h.4.mk k,h.5.mk k,h.6.mk k,h.7.mk k⟩
theorem zS.keep{w:zf}(h:zS lo T w cv bv fv tv ev nv kv d)(hk:∀(b:Nat) (o:Obj),lo<=b->b<T->w.heap[b]?=zd o->W.heap[b]?=zd o):zS lo T W cv bv fv tv ev nv kv d:=⟨h.1.keep (ai _) (ai _) hk,h.2.keep (ai _) (ai _) hk,h.3.keep (ai _) (ai _) hk,h.4.keep (ai _) (ai _) hk,h.5.keep (ai _) (ai _) hk,h.6.keep (ai _) (ai _) hk,h.7.keep (ai _) (ai _) hk⟩
theorem wF.w{w:zf}(h:wF lo w cv bv fv tv ev nv kv d):zS lo w.heap.size w cv bv fv tv ev nv kv d:=⟨h.1.2,h.2.2,h.3.2,h.4.2,h.5.2,h.6.2,h.7.2⟩
theorem ziT(cv bv fv tv ev nv kv:zg)(d:bG)(k:Int)(w:zf)(h:zS lo T w cv bv fv tv ev nv kv d)(hT:T<=w.heap.size)(hsm:zq d)(il:0<=k)(cM:k<=10000000):
  ab prog 43 #[aa #[cv,za .i64 d.width,bv,fv,tv,ev,nv,kv],za .i64 k] w λe W=>∃r:Int,e=.returned (za .i64 r)/\0<=r/\aE (λj=>lo<=j/\j<T) w W:=by
 have l0:d.ci.length<=1048576:=hsm _ (by simp[bG.lists]);have l1:d.base.length<=1048576:=hsm _ (by simp[bG.lists]);have l2:d.bQ.length<=1048576:=hsm _ (by simp[bG.lists]);have l3:d.tag.length<=1048576:=hsm _ (by simp[bG.lists]);have l4:d.fin.length<=1048576:=hsm _ (by simp[bG.lists]);have l5:d.next.length<=1048576:=hsm _ (by simp[bG.lists]);have l6:d.a8.length<=1048576:=hsm _ (by simp[bG.lists]);obtain⟨W0,ah⟩:∃W0,w.alloc (zc #[cv,za .i64 d.width,bv,fv,tv,ev,nv,kv] 39)=W0:=⟨_,rfl⟩;have ae:zb w.heap.size w W0:=by rw[<-ah];exact au
 have r0:W0.heap[w.heap.size]?=zd (zc #[cv,za .i64 d.width,bv,fv,tv,ev,nv,kv] 39 (0,0)):=by rw[<-ah];exact aL _ _
 have H0:=h.keep (W:=W0) (λb o _ hl e=>(ae.block b (by omega)).trans e);have xh:=EQ cv d.ci.length k W0 H0.ci (by omega);have bK:=(ap.1 r0).1;obtain⟨x0,x1,x2,x3,x4,x5,x6,x7⟩:=EU r0;clear h
 go_enter func43,ntmps43
 go_wp2_with fail
 refine xh.mono ?_;rintro e W1 ⟨rfl,M1⟩;clear x0 x1 x2 x3 x4 x5 x6 x7 ah xh;obtain⟨k1,zvP⟩:∃k1:Int,k+(d.ci.length:Int)=k1:=⟨_,rfl⟩;have kb1:0<=k1/\k1<=20000000:=by omega
 rw[zvP];clear zvP;have r1:=(M1.out _ bK (.inr hT)).trans r0;have H1:=H0.mk' M1;have qq:=EQ bv d.base.length k1 W1 H1.base (by omega);have bh:=(ap.1 r1).1;obtain⟨x0,x1,x2,x3,x4,x5,x6,x7⟩:=EU r1
 go_wp2_with fail
 refine qq.mono ?_;rintro e W2 ⟨rfl,M2⟩;clear x0 x1 x2 x3 x4 x5 x6 x7 qq;obtain⟨k2,zvQ⟩:∃k2:Int,k1+(d.base.length:Int)=k2:=⟨_,rfl⟩;have OA:0<=k2/\k2<=22000000:=by omega
 rw[zvQ];clear zvQ;have r2:=(M2.out _ bh (.inr hT)).trans r1;have H2:=H1.mk' M2;have dx:=EQ fv d.bQ.length k2 W2 H2.bQ (by omega);have bz:=(ap.1 r2).1;obtain⟨x0,x1,x2,x3,x4,x5,x6,x7⟩:=EU r2
 go_wp2_with fail
 refine dx.mono ?_;rintro e W3 ⟨rfl,M3⟩;clear x0 x1 x2 x3 x4 x5 x6 x7 dx;obtain⟨k3,zvR⟩:∃k3:Int,k2+(d.bQ.length:Int)=k3:=⟨_,rfl⟩;have kb3:0<=k3/\k3<=24000000:=by omega
 rw[zvR];clear zvR;have r3:=(M3.out _ bz (.inr hT)).trans r2;have H3:=H2.mk' M3;have nQ:=EQ tv d.tag.length k3 W3 H3.tag (by omega);have uL:=(ap.1 r3).1;obtain⟨x0,x1,x2,x3,x4,x5,x6,x7⟩:=EU r3
 go_wp2_with fail
 refine nQ.mono ?_;rintro e W4 ⟨rfl,M4⟩;clear x0 x1 x2 x3 x4 x5 x6 x7 nQ;obtain⟨k4,zvS⟩:∃k4:Int,k3+(d.tag.length:Int)=k4:=⟨_,rfl⟩;have kb4:0<=k4/\k4<=26000000:=by omega
 rw[zvS];clear zvS;have r4:=(M4.out _ uL (.inr hT)).trans r3;have H4:=H3.mk' M4;have J3:=EQ ev d.fin.length k4 W4 H4.fin (by omega);have hz4:=(ap.1 r4).1;obtain⟨x0,x1,x2,x3,x4,x5,x6,x7⟩:=EU r4
 go_wp2_with fail
 refine J3.mono ?_;rintro e W5 ⟨rfl,M5⟩;clear x0 x1 x2 x3 x4 x5 x6 x7 J3;obtain⟨k5,zvT⟩:∃k5:Int,k4+(d.fin.length:Int)=k5:=⟨_,rfl⟩;have kb5:0<=k5/\k5<=28000000:=by omega
 rw[zvT];clear zvT;have r5:=(M5.out _ hz4 (.inr hT)).trans r4;have H5:=H4.mk' M5;have hc5:=EQ nv d.next.length k5 W5 H5.next (by omega);have hz5:=(ap.1 r5).1;obtain⟨x0,x1,x2,x3,x4,x5,x6,x7⟩:=EU r5
 go_wp2_with fail
 refine hc5.mono ?_;rintro e W6 ⟨rfl,M6⟩;clear x0 x1 x2 x3 x4 x5 x6 x7 hc5;obtain⟨k6,zvU⟩:∃k6:Int,k5+(d.next.length:Int)=k6:=⟨_,rfl⟩;have kb6:0<=k6/\k6<=30000000:=by omega
 rw[zvU];clear zvU;have r6:=(M6.out _ hz5 (.inr hT)).trans r5;have H6:=H5.mk' M6;have N1:=EQ kv d.a8.length k6 W6 H6.a8 (by omega);have hz6:=(ap.1 r6).1;obtain⟨x0,x1,x2,x3,x4,x5,x6,x7⟩:=EU r6
 go_wp2_with fail
 refine N1.mono ?_;rintro e W7 ⟨rfl,M7⟩;clear x0 x1 x2 x3 x4 x5 x6 x7 N1;obtain⟨k7,zvV⟩:∃k7:Int,k6+(d.a8.length:Int)=k7:=⟨_,rfl⟩;have kb7:0<=k7/\k7<=32000000:=by omega
 rw[zvV];clear zvV;have r7:=(M7.out _ hz6 (.inr hT)).trans r6;have HT:=aY (((((((aE.cH ae).trans M1.kF).trans M2.kF).trans M3.kF).trans M4.kF).trans M5.kF).trans M6.kF |>.trans M7.kF);clear M1 M2 M3 M4 M5 M6 M7 H0 H1 H2 H3 H4 H5 H6 r0 r1 r2 r3 r4 r5 r6 r7;go_wp2;go_ret;exact⟨k7,rfl,kb7.1,HT.out⟩
theorem zhD(ao:Option Addr)(rc:Nat)(cv bv fv tv ev nv kv:zg)(rs:List bL)(d:bG)(T:Nat)(w:zf)(hr:BN lo T w (.slice ao rs.length rc) rs)(ht:zS lo T w cv bv fv tv ev nv kv d)(hT:T<=w.heap.size)(hsm:zq d)(hc:sO rs<=4194304):
  ab prog 14 #[aa #[.slice ao rs.length rc,cv,za .i64 d.width,bv,fv,tv,ev,nv,kv],za .i64 1] w λe W=>∃r:Int,e=.returned (za .i64 r)/\0<=r/\aE (λj=>lo<=j/\j<T) w W:=by
 obtain⟨W0,ah⟩:∃W0,w.alloc (zc #[.slice ao rs.length rc,cv,za .i64 d.width,bv,fv,tv,ev,nv,kv] 41)=W0:=⟨_,rfl⟩;have ae:zb w.heap.size w W0:=by rw[<-ah];exact au
 have r0:W0.heap[w.heap.size]?=zd (zc #[.slice ao rs.length rc,cv,za .i64 d.width,bv,fv,tv,ev,nv,kv] 41 (0,0)):=by rw[<-ah];exact aL _ _
 have bX:=ae.size;have c1:=zj0 (.slice ao rs.length rc) rs 1 W0 (hr.keep (ai _) (ai _) (λb o _ hl e=>(ae.block b (by omega)).trans e)) (by omega);rw[show ((1:Nat):Int)=1 from rfl]at c1;have T0:=ht.keep (W:=W0) (λb o _ hl e=>(ae.block b (by omega)).trans e);have bK:=(ap.1 r0).1;obtain⟨q0,q1,q2,q3,q4,q5,q6,q7,q8⟩:=mC r0;obtain⟨kk,BF⟩:∃kk:Nat,zj (1+sO rs=kk):=⟨_,rfl⟩;have im:(kk:Int)<=10000000:=by have:=BF.out;omega
 rw[BF.out]at c1;clear hr ht
 go_enter func14,ntmps14
 go_wp2_with fail
 refine c1.mono ?_;rintro e W1 ⟨rfl,M1⟩;have r1:=(M1.out _ bK (.inr hT)).trans r0;have c2:=ziT cv bv fv tv ev nv kv d (kk:Int) W1 (T0.mk' M1) (aU hT (aU bX M1.size)) hsm (by omega) im;clear q0 q1 q2 q3 q4 q5 q6 q7 q8 ah c1;obtain⟨q0,q1,q2,q3,q4,q5,q6,q7,q8⟩:=mC r1
 go_wp2_with fail
 refine c2.mono ?_;rintro e W2 ⟨r,rfl,de,t2⟩;have HT:=aY (((aE.cH ae).trans M1.kF).trans t2);clear c2 q0 q1 q2 q3 q4 q5 q6 q7 q8 M1 t2 T0 r0 r1;go_wp2;go_ret;exact⟨r,rfl,de,HT.out⟩
theorem zjD(ao iG:Option Addr)(rc OM:Nat)(cv bv fv tv ev nv kv vE vD oR wv vF pi vY:zg)(rs:List bL)(d:bG)(w:zf)(hr:gZ l1 w (.slice ao rs.length rc) rs)(hs:eN l1 w cv bv fv tv ev nv kv d)(iC:gZ l2 w (.slice iG rs.length OM) rs)(cZ:eN l2 w vE vD oR wv vF pi vY d):
  ab prog 13 #[aa #[.slice ao rs.length rc,cv,za .i64 d.width,bv,fv,tv,ev,nv,kv],aa #[.slice iG rs.length OM,vE,za .i64 d.width,vD,oR,wv,vF,pi,vY]] w λe w'=>e=.returned (.bool true)/\zb w.heap.size w w':=by
 obtain⟨W0,ah⟩:∃W0,(w.alloc (zc #[.slice ao rs.length rc,cv,za .i64 d.width,bv,fv,tv,ev,nv,kv] 41)).alloc (zc #[.slice iG rs.length OM,vE,za .i64 d.width,vD,oR,wv,vF,pi,vY] 41)=W0:=⟨_,rfl⟩;have ae:zb w.heap.size w W0:=by rw[<-ah];exact(au).alloc (by simp) _
 have r0:W0.heap[w.heap.size]?=zd (zc #[.slice ao rs.length rc,cv,za .i64 d.width,bv,fv,tv,ev,nv,kv] 41 (0,0)):=by rw[<-ah];exact heap_alloc2_old _ _ _
 have p0:W0.heap[w.heap.size+1]?=zd (zc #[.slice iG rs.length OM,vE,za .i64 d.width,vD,oR,wv,vF,pi,vY] 41 (0,0)):=by rw[<-ah];exact heap_alloc2_new _ _ _
 have c1:=znd _ _ rs W0 (hr.below ae) (iC.below ae);have c2:=λW (hb:zb w.heap.size w W)=>zne cv bv fv tv ev nv kv vE vD oR wv vF pi vY d W (hs.below hb) (cZ.below hb)
 obtain⟨q0,q1,q2,q3,q4,q5,q6,q7,q8⟩:=mC r0;obtain⟨x0,x1,x2,x3,x4,x5,x6,x7,x8⟩:=mC p0;clear hr hs iC cZ
 go_enter func13,ntmps13
 go_wp2_with fail
 refine c1.mono ?_;rintro e W1 ⟨rfl,ak⟩;have iU:=aj ae ae.size ak;have c2:=c2 W1 iU;clear q0 q1 q2 q3 q4 q5 q6 q7 q8 x0 x1 x2 x3 x4 x5 x6 x7 x8 ah c1;obtain⟨q0,q1,q2,q3,q4,q5,q6,q7,q8⟩:=mC (cB r0 ak);obtain⟨x0,x1,x2,x3,x4,x5,x6,x7,x8⟩:=mC (cB p0 ak)
 go_wp2_with fail
 refine c2.mono ?_;rintro e W2 ⟨rfl,af⟩;have dL:=aj iU iU.size af;clear c2 q0 q1 q2 q3 q4 q5 q6 q7 q8 x0 x1 x2 x3 x4 x5 x6 x7 x8;go_wp2;go_ret;exact⟨rfl,dL⟩
theorem Vg(a b c d:Int)(v v2:zg)(sp:List (Int×Int))(w:zf)(h1:dD l1 w v sp)(h2:dD l2 w v2 sp):
  ab prog 12 #[aa #[za .i64 a,za .i64 b,za .i64 c,za .i64 d,v],aa #[za .i64 a,za .i64 b,za .i64 c,za .i64 d,v2]] w λe w'=>e=.returned (.bool true)/\zb w.heap.size w w':=by
 obtain⟨W0,ah⟩:∃W0,(w.alloc (zc #[za .i64 a,za .i64 b,za .i64 c,za .i64 d,v] 35)).alloc (zc #[za .i64 a,za .i64 b,za .i64 c,za .i64 d,v2] 35)=W0:=⟨_,rfl⟩;have ae:zb w.heap.size w W0:=by rw[<-ah];exact(au).alloc (by simp) _
 have r0:W0.heap[w.heap.size]?=zd (zc #[za .i64 a,za .i64 b,za .i64 c,za .i64 d,v] 35 (0,0)):=by rw[<-ah];exact heap_alloc2_old _ _ _
 have p0:W0.heap[w.heap.size+1]?=zd (zc #[za .i64 a,za .i64 b,za .i64 c,za .i64 d,v2] 35 (0,0)):=by rw[<-ah];exact heap_alloc2_new _ _ _
 have e1:(a != a)=false:=by simp
 have e2:(b != b)=false:=by simp
 have e3:(c != c)=false:=by simp
 have e4:(d != d)=false:=by simp
 have c1:=znb v v2 sp W0 (h1.below ae) (h2.below ae);obtain⟨q0,q1,q2,q3,q4⟩:=eW r0;obtain⟨x0,x1,x2,x3,x4⟩:=eW p0
 go_enter func12,ntmps12
 go_wp2_with fail
 refine c1.mono ?_;rintro e W1 ⟨rfl,ak⟩;have iU:=aj ae ae.size ak;clear c1 q0 q1 q2 q3 q4 x0 x1 x2 x3 x4 ah;go_wp2;go_ret;exact⟨rfl,iU⟩
theorem ziR{B:Nat}(a b c d:Int)(so:Option Addr)(m cap:Nat)(sp:List (Int×Int))(w:zf)(h:vz B w (.slice so m cap) sp)(hn:sp.length<=100000):
  ab prog 15 #[aa #[za .i64 a,za .i64 b,za .i64 c,za .i64 d,.slice so m cap],za .i64 1] w λe w'=>e=.returned (za .i64 (1+2*(sp.length:Int)))/\vz B w' (.slice so m cap) (tC sp.length 1)/\aE (λk=>(Value.slice so m cap).ownBlock=zd k) w w':=by
 obtain⟨W0,ah⟩:∃W0,w.alloc (zc #[za .i64 a,za .i64 b,za .i64 c,za .i64 d,.slice so m cap] 35)=W0:=⟨_,rfl⟩;have ae:zb w.heap.size w W0:=by rw[<-ah];exact au
 have r0:W0.heap[w.heap.size]?=zd (zc #[za .i64 a,za .i64 b,za .i64 c,za .i64 d,.slice so m cap] 35 (0,0)):=by rw[<-ah];exact aL _ _
 have c1:=zjZ 1 W0 (cI h ae) (by omega) hn;obtain⟨q0,q1,q2,q3,q4⟩:=eW r0;clear h
 go_enter func15,ntmps15
 go_wp2_with fail
 refine c1.mono ?_;rintro e W1 ⟨rfl,mq,g1⟩;have HO:=aY mq;have HT:=aY ((aE.cH (S:=λk=>(Value.slice so m cap).ownBlock=zd k) ae).grown g1 (λk e=>.inl e));clear c1 q0 q1 q2 q3 q4 ah mq g1;go_wp2;go_ret;exact⟨rfl,HO.out,HT.out⟩
theorem ziH(a b c d:Int)(v:zg)(n:Nat)(w:zf)(h:dD lo w v (tC n 1))(hn:n<=100000):
  ab prog 16 #[aa #[za .i64 a,za .i64 b,za .i64 c,za .i64 d,v],za .i64 1] w λe w'=>e=.returned (za .i64 (1+2*(n:Int)))/\zb w.heap.size w w':=by
 obtain⟨W0,ah⟩:∃W0,w.alloc (zc #[za .i64 a,za .i64 b,za .i64 c,za .i64 d,v] 35)=W0:=⟨_,rfl⟩;have ae:zb w.heap.size w W0:=by rw[<-ah];exact au
 have r0:W0.heap[w.heap.size]?=zd (zc #[za .i64 a,za .i64 b,za .i64 c,za .i64 d,v] 35 (0,0)):=by rw[<-ah];exact aL _ _
 have c1:=zjM (n:=n) 1 W0 (h.below ae) (by omega) hn;obtain⟨q0,q1,q2,q3,q4⟩:=eW r0;have CA:decide ((1:Int)+2*(n:Int)<0)=false:=by simp;omega
 go_enter func16,ntmps16
 go_wp2_with fail
 refine c1.mono ?_;rintro e W1 ⟨rfl,lG⟩;subst W1;go_wp2;go_ret;exact⟨rfl,ae⟩
end
variable {rs:List bL}{d:bG}{s:eE}{w W W':zf}{v m:zg}{lo:Nat}{e:Ending}
open Go.RowKit
attribute [local go_sem ↓] wp_at_zero wp_at_succ
theorem ztB{s':eE}{x:ku}(h:oN rs d s s' x):x.gA.length<=501:=by
 rcases h with ⟨-,-,rfl⟩|⟨hB,b,-,-,-,h4,a,sp,-,h6,-,rfl⟩|⟨-,-,-,rfl⟩
 ·simp[ku.zero]
 ·rcases h6 with ⟨-,rfl⟩|⟨-,h6⟩
  ·obtain⟨hl,-⟩:=ER hB;have hn:=WN hB b;have lZ:(qG d s b).toNat<rs.length:=by omega
   simp only[li,dE]at hl;have eU:=jl.1 hl.1.2 (rs.getD (qG d s b).toNat .zero) (by simp[List.getD,lZ]);unfold iM gD at eU;simp only[dE,oD]at eU;rw[C8];omega
  ·exact zqI h6
 ·simp
theorem Vc(xs:Array zg)(w:zf):(callFunc 8 xs).run prog w=.ok (.enter 8 xs) w:=by kernel_rfl
theorem Vd(xs:Array zg)(w:zf):(callFunc 9 xs).run prog w=.ok (.enter 9 xs) w:=by kernel_rfl
theorem zhz(xs:Array zg)(w:zf):(callFunc 13 xs).run prog w=.ok (.enter 13 xs) w:=by kernel_rfl
theorem znM{B:Nat}{e:zm}{sz n:Nat}{xs:List zg}(h:w.ownsRow B e sz v n xs):∃ao nn c,v=.slice ao nn c:=by
 rcases h.2 with ⟨e,_⟩|⟨g,c,_,e,_⟩
 ·exact⟨_,_,_,e⟩
 ·exact⟨_,_,_,e⟩
theorem ztg{A B:Array zg}{s t:zm}:zb W.heap.size W ((W.alloc (zc A s)).alloc (zc B t))/\((W.alloc (zc A s)).alloc (zc B t)).heap[W.heap.size]?=zd (zc A s (0,0))/\((W.alloc (zc A s)).alloc (zc B t)).heap[W.heap.size+1]?=zd (zc B t (0,0)):=
 ⟨(au).alloc (by simp) _,heap_alloc2_old _ _ _,heap_alloc2_new _ _ _⟩
theorem aE.under{S:Nat->Prop}{w0:zf}(t:aE S w W)(hb:zb w0.heap.size w0 w)(hS:∀k,k<w0.heap.size->¬S k):zb w0.heap.size w0 W:=
 ⟨t.os.trans hb.os,t.tape.trans hb.tape,t.output.trans hb.output,aU hb.size t.size,λk hk=>(t.same k (bA hk hb.size) (hS k hk)).trans (hb.block k hk)⟩
theorem ziB(xs:Array zg)(w:zf):(callFunc 7 xs).run prog w=.ok (.enter 7 xs) w:=by kernel_rfl
theorem zeV(xs:Array zg)(w:zf):(callFunc 10 xs).run prog w=.ok (.enter 10 xs) w:=by kernel_rfl
theorem E8{xs:List Int}(h:iR lo w v xs):∃ao cap,v=.slice ao xs.length cap:=⟨_,_,h.choose_spec.choose_spec.1⟩
def sM(lo:Nat)(rs:List bL)(d:bG)(m:zg)(W:zf):Prop:=∃ao rc cv bv fv tv ev nv kv,m=aa #[.slice ao rs.length rc,cv,za .i64 d.width,bv,fv,tv,ev,nv,kv]/\rq lo W (.slice ao rs.length rc) cv bv fv tv ev nv kv rs d
theorem sM.below(h:sM lo rs d m W)(hb:zb W.heap.size W W'):sM lo rs d m W':=by
 obtain⟨ao,rc,cv,bv,fv,tv,ev,nv,kv,rfl,h⟩:=h;exact⟨ao,rc,cv,bv,fv,tv,ev,nv,kv,rfl,h.below hb⟩
theorem sM.of{l:Nat}(h:∃j7 zn uq qn mL uR uu qH uN,e=.returned (aa #[.slice j7 rs.length zn,uq,za .i64 d.width,qn,mL,uR,uu,qH,uN])/\rq l W' (.slice j7 rs.length zn) uq qn mL uR uu qH uN rs d/\zb W.heap.size W W')(hl:lo<=l):∃v,e=.returned v/\sM lo rs d v W'/\zb W.heap.size W W':=by
 obtain⟨ao,rc,cv,bv,fv,tv,ev,nv,kv,rfl,h,hb⟩:=h;exact⟨_,rfl,⟨ao,rc,cv,bv,fv,tv,ev,nv,kv,rfl,h.mono hl⟩,hb⟩
def Nc(rs:List bL)(d:bG)(s:eE)(W:zf)(e:Ending)(w':zf):Prop:=∃s' x so sm sc,e=.returned (.tuple #[iN s',jq x (.slice so sm sc)])/\oN rs d s s' x/\w'.ownsRow W.heap.size 71 2 (.slice so sm sc) x.gA.length (pv x.gA)/\zb W.heap.size W w'
theorem Nc.of{w':zf}(h:∃s' x,oN rs d s s' x/\Jo W s' x e w'):Nc rs d s W e w':=by
 obtain⟨s',x,hR,v,rfl,ho,hb⟩:=h;obtain⟨so,sm,sc,rfl⟩:=znM ho;exact⟨s',x,so,sm,sc,rfl,hR,ho,hb⟩
theorem zsX(h:sM lo rs d m W)(hsm:qM rs)(s:eE):ab prog 7 #[m,iN s] W λe w'=>Nc rs d s W e w':=by
 obtain⟨ao,rc,cv,bv,fv,tv,ev,nv,kv,rfl,h⟩:=h;exact(zlJ ao rc cv bv fv tv ev nv kv rs d s W h.G8 hsm h.jT.jT).mono λe w' h=>.of h
theorem zpj(h:sM lo rs d m W)(hsm:qM rs)(rQ:zq d)(sV:fG W)(s:eE):ab prog 10 #[m,iN s] W λe w'=>Nc rs d s W e w':=by
 obtain⟨ao,rc,cv,bv,fv,tv,ev,nv,kv,rfl,h⟩:=h;exact(zlc ao rc cv bv fv tv ev nv kv rs d s W h.G8 hsm h.jT.jT rQ sV).mono λe w' h=>.of h
theorem zno(ao:Option Addr)(rc:Nat)(cv bv fv tv ev nv kv:zg)(rs:List bL)(d:bG)(s:eE)(w:zf)(hr:gZ lo w (.slice ao rs.length rc) rs)(hs:eN lo w cv bv fv tv ev nv kv d)(TH:s.B.size<=9223372036854775807)(sV:fG w):
  ab prog 3 #[aa #[.slice ao rs.length rc,cv,za .i64 d.width,bv,fv,tv,ev,nv,kv],aa #[za .i64 s.L,.string s.B,.bool s.C,za .i64 s.S,za .i64 s.N]] w λr w'=>r=.returned (.bool true)/\zb w.heap.size w w':=by
 have gX:=qa sV;have fU:prog.follows .mixedOrders=true:=by kernel_rfl
 obtain⟨ae,r0,p0⟩:=ztg (W:=w) (A:=#[.slice ao rs.length rc,cv,za .i64 d.width,bv,fv,tv,ev,nv,kv]) (B:=#[za .i64 s.L,.string s.B,.bool s.C,za .i64 s.S,za .i64 s.N]) (s:=27) (t:=29);obtain⟨W0,ah⟩:∃W0,(w.alloc (zc #[.slice ao rs.length rc,cv,za .i64 d.width,bv,fv,tv,ev,nv,kv] 27)).alloc (zc #[za .i64 s.L,.string s.B,.bool s.C,za .i64 s.S,za .i64 s.N] 29)=W0:=⟨_,rfl⟩;rw[ah]at ae r0 p0;have c1:=zkt ao rc cv bv fv tv ev nv kv rs d W0 (hr.below ae) (hs.below ae);obtain⟨q0,q1,q2,q3,q4,q5,q6,q7,q8⟩:=mC r0
 go_enter func3,ntmps3
 go_wp2_with fail
 refine c1.mono ?_;rintro e w1 ⟨l,rfl,lD,ju,zwm,ak⟩;have iU:=aj ae ae.size ak;clear q0 q1 q2 q3 q4 q5 q6 q7 q8 ah c1
 by_cases hl:l<0
 ·go_wp2;go_ret;exact⟨rfl,iU⟩
 obtain⟨hsm,rQ,hcr⟩:=zwm (by omega);have c2:=zkx s l w1 (by omega) (by omega) TH;have p1:=cB p0 ak;have r1:=cB r0 ak;obtain⟨y0,y1,y2,y3,y4⟩:=eW p1;clear zwm
 go_wp2_with fail
 refine c2.mono ?_;rintro e w2 ⟨rfl,af⟩;have dL:=aj iU iU.size af;have p2:=cB p1 af;have r2:=cB r1 af;clear c2 y0 y1 y2 y3 y4 p0 p1 r0 r1
 by_cases l9:l-(s.B.size:Int)<0
 ·rw[aD l9];go_wp2;go_ret;exact⟨rfl,dL⟩
 rw[aq l9];have HD:zj (∀W,zb w2.heap.size w2 W->W.heap[w.heap.size]?=zd (zc #[.slice ao rs.length rc,cv,za .i64 d.width,bv,fv,tv,ev,nv,kv] 27 (0,0))/\W.heap[w.heap.size+1]?=zd (zc #[za .i64 s.L,.string s.B,.bool s.C,za .i64 s.S,za .i64 s.N] 29 (0,0))/\zb w.heap.size w W):=λW hb=>⟨cB r2 hb,cB p2 hb,aj dL dL.size hb⟩
 have MU:zj (∀W,zb w2.heap.size w2 W->ab prog 8 #[aa #[.slice ao rs.length rc,cv,za .i64 d.width,bv,fv,tv,ev,nv,kv]] W λe w'=>∃j7 zn uq qn mL uR uu qH uN,e=.returned (aa #[.slice j7 rs.length zn,uq,za .i64 d.width,qn,mL,uR,uu,qH,uN])/\rq W.heap.size w' (.slice j7 rs.length zn) uq qn mL uR uu qH uN rs d/\zb W.heap.size W w'):=λW hb=>zkB ao rc cv bv fv tv ev nv kv rs d W (hr.below (HD.out W hb).2.2) hsm (hs.below (HD.out W hb).2.2) rQ
 have FJ:zj (∀W,zb w2.heap.size w2 W->fG W):=λW hb=>sV.keep ((HD.out W hb).2.2.block 0 gX)
 have xm:∀(X:zf),zb w2.heap.size w2 X->∀s':dy X,(∀o,s'.W.cell? ⟨w.heap.size,o,zk⟩=(#[.slice ao rs.length rc,cv,za .i64 d.width,bv,fv,tv,ev,nv,kv]:Array zg)[o]?)/\(∀o,s'.W.cell? ⟨w.heap.size+1,o,zk⟩=(#[za .i64 s.L,.string s.B,.bool s.C,za .i64 s.S,za .i64 s.N]:Array zg)[o]?):=λX hX s'=>⟨cm (HD.out s'.W (aj hX hX.size s'.h)).1,cm (HD.out s'.W (aj hX hX.size s'.h)).2.1⟩
 have YN:=aY xm;clear hr hs sV r2 p2 xm;have k0:=λs':dy w2=>(YN.out w2 (Below.refl _ _) s').1
 have k1:=λs':dy w2=>(YN.out w2 (Below.refl _ _) s').2
 go_upto_region 8 with fail
 refine zqr _ _ _ _ _ _ _ _ _ _ _ _ 27 28 29 30 31 26 32 33 6 7 (aa #[.slice ao rs.length rc,cv,za .i64 d.width,bv,fv,tv,ev,nv,kv]) (iN s) (sM w2.heap.size rs d) (oN rs d s) 8 9 7 fU (by kernel_rfl) (by decide) (by simp) rfl rfl rfl rfl rfl rfl rfl rfl rfl rfl rfl rfl (λl h=>h ⟨0,.data⟩ (by simp) rfl) (λl h=>h ⟨2,.data⟩ (by simp) rfl) (λl h=>h ⟨1,.data⟩ (by simp) rfl) (λl h=>h ⟨3,.data⟩ (by simp) rfl) (λl h=>h ⟨4,.data⟩ (by simp) rfl) (λl h=>h ⟨5,.data⟩ (by simp) rfl) (λl h=>h ⟨5,.data⟩ (by simp) rfl) (λl h=>h ⟨4,.phase⟩ (by simp) rfl) (λl h=>h ⟨8,.data⟩ (by simp) rfl) (λl h=>h ⟨6,.data⟩ (by simp) rfl) (λl h=>h ⟨4,.phase⟩ (by simp) rfl) (λl h=>h ⟨9,.data⟩ (by simp) rfl) (λl h=>h ⟨7,.data⟩ (by simp) rfl)
  (λa W ha hb=>V7 (.inl rfl) rfl ((ha.ev 2 (by decide)).trans rfl) (HD.out W hb).1) (λa W ha hb=>V6 rfl ((ha.ev 3 (by decide)).trans rfl) (HD.out W hb).2.1)
  (λa W h=>LM rfl rfl h W (Vc _ _)) (λa W h=>LM rfl rfl h W (Vd _ _)) (λa W m h1 h2=>V3 rfl rfl h1 h2 W (ziB _ _)) (λa W v h=>Wd rfl h W) (λa W u v h=>U5 rfl h W) (λa W u v h=>U6 rfl h W)
  (λa W=>VA rfl W) (λa W=>Vz rfl W) (λa W g s' h1 h2 r=>VC rfl h1 h2 r) (λa W g x so sm sc h1 h2 r=>VB rfl h1 h2 r)
  (λW hb=>(MU.out W hb).mono λe w' h=>sM.of h hb.size) (λW=>Vp s W) (λW m hb hm=>zsX hm hsm s) (λm W W' h hb=>h.below hb) ?_
 rintro a w3 m s1 x1 so sm sc g6 g7 rfl ay hR az nT Cr KD Sf;simp only[List.foldl_cons,List.foldl_nil,Act.put,FB,List.set_cons_zero,List.set_cons_succ,iN,jq];obtain⟨r3,p3,ql⟩:=HD.out w3 ay;have z3:=mC r3;obtain⟨q0,q1,q2,q3,q4,q5,q6,q7,q8⟩:=z3;clear r3 p3
 go_wp2_with fail
 refine(MU.out w3 ay).mono ?_;rintro e w4 ⟨uf,EF,cv1,bv1,fv1,tv1,ev1,nv1,kv1,rfl,xc,aG⟩;clear q0 q1 q2 q3 q4 q5 q6 q7 q8;obtain⟨ca,cc,rfl⟩:=E8 xc.jT.jT.ci;obtain⟨ba,bc,rfl⟩:=E8 xc.jT.jT.base;obtain⟨fa,fc,rfl⟩:=E8 xc.jT.jT.bQ;obtain⟨ta,tc,rfl⟩:=E8 xc.jT.jT.tag;obtain⟨ea,ec,rfl⟩:=E8 xc.jT.jT.fin;obtain⟨na,nc,rfl⟩:=E8 xc.jT.jT.next;obtain⟨ka,kc,rfl⟩:=E8 xc.jT.jT.a8
 go_upto_region 10 with fail
 obtain⟨w5,KP⟩:∃w5,w4.alloc (zc #[.slice uf rs.length EF,.slice ca d.ci.length cc,za .i64 d.width,.slice ba d.base.length bc,.slice fa d.bQ.length fc,.slice ta d.tag.length tc,.slice ea d.fin.length ec,.slice na d.next.length nc,.slice ka d.a8.length kc] 41)=w5:=⟨_,rfl⟩;have bE:zb w4.heap.size w4 w5:=by rw[<-KP];exact au
 have r5:w5.heap[w4.heap.size]?=zd (zc #[.slice uf rs.length EF,.slice ca d.ci.length cc,za .i64 d.width,.slice ba d.base.length bc,.slice fa d.bQ.length fc,.slice ta d.tag.length tc,.slice ea d.fin.length ec,.slice na d.next.length nc,.slice ka d.a8.length kc] 41 (0,0)):=by rw[<-KP];exact aL _ _
 rw[KP];have zZ:zb w3.heap.size w3 w5:=aj aG aG.size bE;have BV:zb w2.heap.size w2 w5:=aj ay ay.size zZ;have MF:=aY (λW (hb:zb w5.heap.size w5 W)=>(xc.below bE).below hb);have H5:zj (∀W,zb w5.heap.size w5 W->W.heap[w4.heap.size]?=zd (zc #[.slice uf rs.length EF,.slice ca d.ci.length cc,za .i64 d.width,.slice ba d.base.length bc,.slice fa d.bQ.length fc,.slice ta d.tag.length tc,.slice ea d.fin.length ec,.slice na d.next.length nc,.slice ka d.a8.length kc] 41 (0,0))/\W.heap[w.heap.size+1]?=zd (zc #[za .i64 s.L,.string s.B,.bool s.C,za .i64 s.S,za .i64 s.N] 29 (0,0))):=λW hb=>⟨cB r5 hb,(HD.out W (aj BV BV.size hb)).2.1⟩
 have MM:=aY (λW (hb:zb w4.heap.size w4 W)=>And.intro (xc.UE.keep (W:=W) (ai _) (ai _) λb _ _ hl e=>(hb.block b hl).trans e) (xc.jT.w.keep (W:=W) λb _ _ hl e=>(hb.block b hl).trans e));clear xc r5 KP;refine ztj _ _ _ _ _ _ _ _ _ _ _ 37 38 39 40 36 41 42 9 10 (aa #[.slice uf rs.length EF,.slice ca d.ci.length cc,za .i64 d.width,.slice ba d.base.length bc,.slice fa d.bQ.length fc,.slice ta d.tag.length tc,.slice ea d.fin.length ec,.slice na d.next.length nc,.slice ka d.a8.length kc]) (iN s) (sM w3.heap.size rs d) (oN rs d s) 9 10 fU (by kernel_rfl) (by decide) (by simp) rfl rfl rfl rfl rfl rfl rfl rfl rfl rfl rfl (λl h=>h ⟨1,.data⟩ (by simp) rfl) (λl h=>h ⟨0,.data⟩ (by simp) rfl) (λl h=>h ⟨2,.data⟩ (by simp) rfl) (λl h=>h ⟨3,.data⟩ (by simp) rfl) (λl h=>h ⟨4,.data⟩ (by simp) rfl) (λl h=>h ⟨4,.data⟩ (by simp) rfl) (λl h=>h ⟨3,.phase⟩ (by simp) rfl) (λl h=>h ⟨7,.data⟩ (by simp) rfl) (λl h=>h ⟨5,.data⟩ (by simp) rfl) (λl h=>h ⟨3,.phase⟩ (by simp) rfl) (λl h=>h ⟨8,.data⟩ (by simp) rfl) (λl h=>h ⟨6,.data⟩ (by simp) rfl)
  (λa W ha hb=>V7 (.inr rfl) rfl ((ha.ev 8 (by decide)).trans rfl) (H5.out W hb).1) (λa W ha hb=>V6 rfl ((ha.ev 3 (by decide)).trans rfl) (H5.out W hb).2)
  (λa W h=>LM rfl rfl h W (Vd _ _)) (λa W m h1 h2=>V3 rfl rfl h1 h2 W (zeV _ _)) (λa W v h=>Wd rfl h W) (λa W u v h=>U5 rfl h W) (λa W u v h=>U6 rfl h W)
  (λa W=>VA rfl W) (λa W=>Vz rfl W) (λa W g s' h1 h2 r=>VC rfl h1 h2 r) (λa W g x so sm sc h1 h2 r=>VB rfl h1 h2 r)
  (λW=>Vp s W) (λW m hb hm=>zpj hm hsm rQ (FJ.out W (aj BV BV.size hb)) s) (λW hb=>⟨_,_,_,_,_,_,_,_,_,rfl,MF.out W hb⟩) ?_
 rintro a w6 s2 x2 wo A1 tG g9 g10 rfl dz nO kV xi zyf hs9 zvp;obtain⟨rfl,rfl⟩:=zpu hR nO;simp only[List.foldl_cons,List.foldl_nil,Act.put,FB,List.set_cons_zero,List.set_cons_succ,iN,jq];have Rj:zb w3.heap.size w3 w6:=aj zZ zZ.size dz;have hlen:=ztB hR;simp only[Lu,oc,Jw]at KD Sf hs9 zvp;have H6:zj (∀W,zb w6.heap.size w6 W->W.heap[g6]?=zd (zc #[za .i64 s1.L,.string s1.B,.bool s1.C,za .i64 s1.S,za .i64 s1.N] 32 (0,0))/\W.heap[g9]?=zd (zc #[za .i64 s1.L,.string s1.B,.bool s1.C,za .i64 s1.S,za .i64 s1.N] 32 (0,0))/\W.heap[g7]?=zd (zc #[za .i64 x1.kind,za .i64 x1.rule,za .i64 x1.start,za .i64 x1.fin,.slice so sm sc] 35 (0,0))/\W.heap[g10]?=zd (zc #[za .i64 x1.kind,za .i64 x1.rule,za .i64 x1.start,za .i64 x1.fin,.slice wo A1 tG] 35 (0,0))/\vz w2.heap.size W (.slice so sm sc) x1.gA/\vz w5.heap.size W (.slice wo A1 tG) x1.gA):=λW hb=>⟨cB (cB KD Rj) hb,cB hs9 hb,cB (cB Sf Rj) hb,cB zvp hb,cI (cI az Rj) hb,cI kV hb⟩
 have H3:zj (∀W,zb w3.heap.size w3 W->W.heap[g6]?=zd (zc #[za .i64 s1.L,.string s1.B,.bool s1.C,za .i64 s1.S,za .i64 s1.N] 32 (0,0))/\W.heap[g7]?=zd (zc #[za .i64 x1.kind,za .i64 x1.rule,za .i64 x1.start,za .i64 x1.fin,.slice so sm sc] 35 (0,0))/\vz w2.heap.size W (.slice so sm sc) x1.gA):=λW hb=>⟨cB KD hb,cB Sf hb,cI az hb⟩
 obtain⟨u6,u9,-⟩:=H6.out w6 (Below.refl _ _);obtain⟨y0,y1,y2,y3,y4⟩:=eW u6;obtain⟨z0,z1,z2,z3,z4⟩:=eW u9;clear u6 u9
 go_wp2_with fail
 refine(U9 s1 _).mono ?_;rintro e w7 ⟨rfl,vI⟩;clear y0 y1 y2 y3 y4 z0 z1 z2 z3 z4;obtain⟨-,-,u7,Lw,o7,kX⟩:=H6.out w7 vI;obtain⟨y0,y1,y2,y3,y4⟩:=eW u7;obtain⟨z0,z1,z2,z3,z4⟩:=eW Lw;clear u7 Lw
 go_wp2_with fail
 refine(Vg x1.kind x1.rule x1.start x1.fin _ _ x1.gA w7 (kX.read (by omega)) (o7.read (by omega))).mono ?_;rintro e w8 ⟨rfl,dX⟩;have Nl:zb w6.heap.size w6 w8:=aj vI vI.size dX;have Ge:zb w5.heap.size w5 w8:=aj dz dz.size Nl;have b38:zb w3.heap.size w3 w8:=aj zZ zZ.size Ge;have Y3:zb w2.heap.size w2 w8:=aj BV BV.size Ge;clear y0 y1 y2 y3 y4 z0 z1 z2 z3 z4 o7 kX;have kk:=λs':dy w8=>mC (H5.out s'.W (aj Ge Ge.size s'.h)).1
 have jj:=λs':dy w8=>mC (HD.out s'.W (aj Y3 Y3.size s'.h)).1
 have y0:=λs'=>(kk s').1
 have z0:=λs'=>(jj s').1
 have y1:=λs'=>(kk s').2.1
 have z1:=λs'=>(jj s').2.1
 have y2:=λs'=>(kk s').2.2.1
 have z2:=λs'=>(jj s').2.2.1
 have y3:=λs'=>(kk s').2.2.2.1
 have z3:=λs'=>(jj s').2.2.2.1
 have y4:=λs'=>(kk s').2.2.2.2.1
 have z4:=λs'=>(jj s').2.2.2.2.1
 have y5:=λs'=>(kk s').2.2.2.2.2.1
 have z5:=λs'=>(jj s').2.2.2.2.2.1
 have y6:=λs'=>(kk s').2.2.2.2.2.2.1
 have z6:=λs'=>(jj s').2.2.2.2.2.2.1
 have y7:=λs'=>(kk s').2.2.2.2.2.2.2.1
 have z7:=λs'=>(jj s').2.2.2.2.2.2.2.1
 have y8:=λs'=>(kk s').2.2.2.2.2.2.2.2
 have z8:=λs'=>(jj s').2.2.2.2.2.2.2.2
 clear kk jj
 go_upto_region 13 with fail
 refine OY [0,1] [2,3,4] 3 (λw'=>∃s:dy w8,w'=s.W) fU ⟨⟨w8.drew,(Below.refl _ _).drew⟩,rfl⟩ (by kernel_rfl) ?_;intro os ck;simp only[lO,lP,lR,lQ]at ck;subst ck
 change wpQuiet _ _ _ _ [_,_] _
 repeat (go_big_quiet_step (fail))
 refine wpQuiet_nil ?_;rintro w' ⟨⟨Wb,iW⟩,hw'⟩ r' bZ;replace hw':w'=Wb:=hw';subst w';simp only[lO,lP,lR,lQ,Option.map_some]at bZ;subst bZ;clear y0 z0 y1 z1 y2 z2 y3 z3 y4 z4 y5 z5 y6 z6 y7 z7 y8 z8;have Rm:zb w5.heap.size w5 Wb:=aj Ge Ge.size iW;have b2b:zb w2.heap.size w2 Wb:=aj BV BV.size Rm;refine uT rfl (λK5 iI=>?_);refine Fb 8 #[.tmp 54] #[27] (by rfl) #[aa #[.slice ao rs.length rc,cv,za .i64 d.width,bv,fv,tv,ev,nv,kv]] (by simp[Act.eval]) (λv w'=>sM Wb.heap.size rs d v w'/\zb Wb.heap.size Wb w') (Vc _ _) ((MU.out Wb b2b).mono λe w' h=>sM.of h (ai _)) ?_;rintro v9 W9 ⟨⟨Y0,rc9,Zr,Ze,ZB,tv9,Zv,nv9,kv9,rfl,RX⟩,iJ⟩;refine iI _ _ (λ_=>⟨⟨W9,aj iW iW.size iJ⟩,rfl⟩) ?_;clear iI K5;have Rl:zb w5.heap.size w5 W9:=aj Rm Rm.size iJ;have RW:=MF.out W9 Rl;refine uT rfl (λK6 Cc=>?_);refine Fb 13 #[.tmp 53,.tmp 55] #[41,41] (by rfl) #[aa #[.slice uf rs.length EF,.slice ca d.ci.length cc,za .i64 d.width,.slice ba d.base.length bc,.slice fa d.bQ.length fc,.slice ta d.tag.length tc,.slice ea d.fin.length ec,.slice na d.next.length nc,.slice ka d.a8.length kc],aa #[.slice Y0 rs.length rc9,Zr,za .i64 d.width,Ze,ZB,tv9,Zv,nv9,kv9]] (by simp[Act.eval,Act.put]) (λv w'=>v=.bool true/\zb W9.heap.size W9 w') (zhz _ _) ((zjD uf Y0 EF rc9 _ _ _ _ _ _ _ Zr Ze ZB tv9 Zv nv9 kv9 rs d W9 RW.G8 RW.jT.jT RX.G8 RX.jT.jT).mono (by
  rintro e w1 ⟨rfl,h1⟩;exact⟨_,rfl,rfl,h1⟩)) ?_
 rintro v10 yC ⟨rfl,yM⟩;refine Cc _ _ (λh=>by simp at h) ?_;clear Cc K6;refine HZ _ _ _ (by simp) (λ_ _ h=>h) ?_
 change wpList _ _ _ [_] _ _
 have Y5:zb w5.heap.size w5 yC:=aj Rl Rl.size yM;have zxm:zb w6.heap.size w6 yC:=aj (aj Nl Nl.size iW) (aU Nl.size iW.size) (aj iJ iJ.size yM);clear RW RX;obtain⟨q0,q1,q2,q3,q4,q5,q6,q7,q8⟩:=mC (H5.out yC Y5).1;have Rk:zb w4.heap.size w4 yC:=aj bE bE.size Y5;have zxk:zb w3.heap.size w3 yC:=aj aG aG.size Rk;obtain⟨lG,gz⟩:=MM.out yC Rk;have xu:=zhD uf EF _ _ _ _ _ _ _ rs d w4.heap.size yC lG gz Rk.size rQ hcr;clear lG gz;go_wp2;rw[wy]
 go_wp2_with fail
 refine xu.mono ?_;rintro e mK ⟨r,rfl,de,zwr⟩;have Rg:zb w3.heap.size w3 mK:=zwr.under zxk (λk hk h=>by omega);have Dp:zj (∀W,zb mK.heap.size mK W->W.heap[g9]?=zd (zc #[za .i64 s1.L,.string s1.B,.bool s1.C,za .i64 s1.S,za .i64 s1.N] 32 (0,0))/\W.heap[g10]?=zd (zc #[za .i64 x1.kind,za .i64 x1.rule,za .i64 x1.start,za .i64 x1.fin,.slice wo A1 tG] 35 (0,0))/\vz w5.heap.size W (.slice wo A1 tG) x1.gA):=by
  obtain⟨-,u9,-,Lw,-,kX⟩:=H6.out yC zxm;have keep:∀k,w5.heap.size<=k->k<yC.heap.size->mK.heap[k]?=yC.heap[k]?:=λk h1 h2=>zwr.same k h2 (λh=>by have:=bE.size;omega)
  have v9:=(keep g9 xi (ap.1 u9).1).trans u9;have v10:=(keep g10 zyf (ap.1 Lw).1).trans Lw;have ze:vz w5.heap.size mK (.slice wo A1 tG) x1.gA:=kH kX (λk e=>by
   obtain⟨z1,aA,z2⟩:=iD kX e;exact keep k z1 (ap.1 z2).1)
  exact λW hb=>⟨cB v9 hb,cB v10 hb,cI ze hb⟩
 have mW:decide (r<0)=false:=decide_eq_false (by omega);clear xu q0 q1 q2 q3 q4 q5 q6 q7 q8;obtain⟨y0,y1,y2,y3,y4⟩:=eW (H3.out mK Rg).1;obtain⟨z0,z1,z2,z3,z4⟩:=eW (Dp.out mK (Below.refl _ _)).1
 go_wp2_with fail
 refine(U9 s1 _).mono ?_;rintro e Gd ⟨rfl,JY⟩;clear y0 y1 y2 y3 y4 z0 z1 z2 z3 z4;have Nj:zb w3.heap.size w3 Gd:=aj Rg Rg.size JY;obtain⟨y0,y1,y2,y3,y4⟩:=eW (H3.out Gd Nj).2.1;obtain⟨z0,z1,z2,z3,z4⟩:=eW (Dp.out Gd JY).2.1
 go_wp2_with fail
 refine(Vg x1.kind x1.rule x1.start x1.fin _ _ x1.gA Gd ((Dp.out Gd JY).2.2.read (by omega)) ((H3.out Gd Nj).2.2.read (by omega))).mono ?_;rintro e DD ⟨rfl,yO⟩;clear y0 y1 y2 y3 y4 z0 z1 z2 z3 z4;have Ni:zb mK.heap.size mK DD:=aj JY JY.size yO;have zxl:zb w3.heap.size w3 DD:=aj Nj Nj.size yO;obtain⟨z0,z1,z2,z3,z4⟩:=eW (Dp.out DD Ni).2.1
 go_wp2_with fail
 refine(ziR x1.kind x1.rule x1.start x1.fin wo A1 tG x1.gA DD (Dp.out DD Ni).2.2 (by omega)).mono ?_;rintro e Ra ⟨rfl,o14,zws⟩;have Uq:=(Dp.out DD Ni).2.2;have jM:∀k,(Value.slice wo A1 tG).ownBlock=zd k->w5.heap.size<=k:=λk e=>(iD Uq e).1
 have zzF:=zZ.size;have Y4:zb w3.heap.size w3 Ra:=zws.under zxl (λk hk h=>by have:=jM k h;omega);have u14:Ra.heap[g10]?=zd (zc #[za .i64 x1.kind,za .i64 x1.rule,za .i64 x1.start,za .i64 x1.fin,.slice wo A1 tG] 35 (0,0)):=by
  have UJ:=(Dp.out DD Ni).2.1;refine(zws.same g10 (ap.1 UJ).1 λh=>?_).trans UJ;obtain⟨-,aA,z⟩:=iD Uq h;rw[UJ]at z;exact absurd (bP z) (by decide)
 obtain⟨kk,bC⟩:∃kk:Int,1+2*(x1.gA.length:Int)=kk:=⟨_,rfl⟩;have cA:decide (kk<0)=false:=decide_eq_false (by omega);have vN:=ziH x1.kind x1.rule x1.start x1.fin (.slice wo A1 tG) x1.gA.length Ra (o14.read (by rw[Fa];omega)) (by omega);rw[bC]at vN;simp only[bC];clear z0 z1 z2 z3 z4 Uq o14 bC;obtain⟨z0,z1,z2,z3,z4⟩:=eW u14
 go_wp2_with fail
 refine vN.mono ?_;rintro e Jr ⟨rfl,Cn⟩;have Rh:zb w3.heap.size w3 Jr:=aj Y4 Y4.size Cn;have BU:zb w2.heap.size w2 Jr:=aj ay ay.size Rh;clear z0 z1 z2 z3 z4 vN u14;have ke:(kk != kk)=false:=by simp
 have Xy:zj (∀W,zb Jr.heap.size Jr W->W.heap[w.heap.size]?=zd (zc #[.slice ao rs.length rc,cv,za .i64 d.width,bv,fv,tv,ev,nv,kv] 27 (0,0))/\W.heap[w.heap.size+1]?=zd (zc #[za .i64 s.L,.string s.B,.bool s.C,za .i64 s.S,za .i64 s.N] 29 (0,0))):=λW hb=>⟨(HD.out W (aj BU BU.size hb)).1,(HD.out W (aj BU BU.size hb)).2.1⟩
 go_upto_region 27 with fail
 refine zqr _ _ _ _ _ _ _ _ _ _ _ _ 87 88 89 90 91 86 92 93 14 15 (aa #[.slice ao rs.length rc,cv,za .i64 d.width,bv,fv,tv,ev,nv,kv]) (iN s) (sM Jr.heap.size rs d) (oN rs d s) 8 9 10 fU (by kernel_rfl) (by decide) (by simp) rfl rfl rfl rfl rfl rfl rfl rfl rfl rfl rfl rfl (λl h=>h ⟨0,.data⟩ (by simp) rfl) (λl h=>h ⟨2,.data⟩ (by simp) rfl) (λl h=>h ⟨1,.data⟩ (by simp) rfl) (λl h=>h ⟨3,.data⟩ (by simp) rfl) (λl h=>h ⟨4,.data⟩ (by simp) rfl) (λl h=>h ⟨5,.data⟩ (by simp) rfl) (λl h=>h ⟨5,.data⟩ (by simp) rfl) (λl h=>h ⟨4,.phase⟩ (by simp) rfl) (λl h=>h ⟨8,.data⟩ (by simp) rfl) (λl h=>h ⟨6,.data⟩ (by simp) rfl) (λl h=>h ⟨4,.phase⟩ (by simp) rfl) (λl h=>h ⟨9,.data⟩ (by simp) rfl) (λl h=>h ⟨7,.data⟩ (by simp) rfl)
  (λa W ha hb=>V7 (.inl rfl) rfl ((ha.ev 2 (by decide)).trans rfl) (Xy.out W hb).1) (λa W ha hb=>V6 rfl ((ha.ev 3 (by decide)).trans rfl) (Xy.out W hb).2)
  (λa W h=>LM rfl rfl h W (Vc _ _)) (λa W h=>LM rfl rfl h W (Vd _ _)) (λa W m h1 h2=>V3 rfl rfl h1 h2 W (zeV _ _)) (λa W v h=>Wd rfl h W) (λa W u v h=>U5 rfl h W) (λa W u v h=>U6 rfl h W)
  (λa W=>VA rfl W) (λa W=>Vz rfl W) (λa W g s' h1 h2 r=>VC rfl h1 h2 r) (λa W g x so sm sc h1 h2 r=>VB rfl h1 h2 r)
  (λW hb=>(MU.out W (aj BU BU.size hb)).mono λe w' h=>sM.of h hb.size) (λW=>Vp s W) (λW m hb hm=>zpj hm hsm rQ (FJ.out W (aj BU BU.size hb)) s) (λm W W' h hb=>h.below hb) ?_
 rintro a YW m3 s3 x3 so3 sm3 Lt g14 g15 rfl zx1 R4 lE zzZ zz0 zwk zvq;obtain⟨rfl,rfl⟩:=zpu hR R4;simp only[List.foldl_cons,List.foldl_nil,Act.put,FB,List.set_cons_zero,List.set_cons_succ,iN,jq];simp only[Lu,oc,Jw]at zwk zvq;have Ri:zb w3.heap.size w3 YW:=aj Rh Rh.size zx1;obtain⟨y0,y1,y2,y3,y4⟩:=eW (H3.out YW Ri).1;obtain⟨z0,z1,z2,z3,z4⟩:=eW zwk
 go_wp2_with fail
 refine(U9 s1 _).mono ?_;rintro e Nh ⟨rfl,Sk⟩;clear y0 y1 y2 y3 y4 z0 z1 z2 z3 z4;have Nk:zb w3.heap.size w3 Nh:=aj Ri Ri.size Sk;obtain⟨y0,y1,y2,y3,y4⟩:=eW (H3.out Nh Nk).2.1;obtain⟨z0,z1,z2,z3,z4⟩:=eW (cB zvq Sk)
 go_wp2_with fail
 refine(Vg x1.kind x1.rule x1.start x1.fin _ _ x1.gA Nh ((show vz _ _ _ _ from cI lE Sk).read (by omega)) ((H3.out Nh Nk).2.2.read (by omega))).mono ?_;rintro e W18 ⟨rfl,zx2⟩;clear y0 y1 y2 y3 y4 z0 z1 z2 z3 z4;go_wp2;go_ret;exact⟨rfl,aj ql ql.size (aj Nk Nk.size zx2)⟩
end Go.Proofs.YtdimhpfiieepiaaGreatDoor
