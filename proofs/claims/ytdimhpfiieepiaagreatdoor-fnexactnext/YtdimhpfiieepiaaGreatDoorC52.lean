import Derived.Test.YtdimhpfiieepiaaGreatDoorC49
import Derived.Test.YtdimhpfiieepiaaGreatDoorC51
namespace Go.Proofs.YtdimhpfiieepiaaGreatDoor
set_option maxHeartbeats 2000000
set_option maxRecDepth 100000
section
variable{ρ:Operand -> Value}{o:Oper}{x y:Operand}{P:Program}{f:FuncId}
open Go.RowKit
theorem zhq{t:TypeId}(ht:t=27\/t=41)(ho:o.op=.load t x){g:Nat}(hx:ρ x=.pointer (some ⟨g,0,none⟩)){w:World}{a b c d e f h i j:Value}(r:w.heap[g]?=some (.cells #[a,b,c,d,e,f,h,i,j] t (0,0))):(execOp ρ o).run Tryz.prog w=.ok (.value (.agg #[a,b,c,d,e,f,h,i,j])) w:=by
 obtain⟨dst,op,type,pos,after,guard⟩:=o;simp only at ho;subst ho;obtain⟨q0,q1,q2,q3,q4,q5,q6,q7,q8⟩:=zbb r;rcases ht with rfl|rfl
 ·simp[execOp,hx,go_sem,q0,q1,q2,q3,q4,q5,q6,q7,q8]
 ·simp[execOp,hx,go_sem,q0,q1,q2,q3,q4,q5,q6,q7,q8]
theorem zhp(ho:o.op=.load 29 x){g:Nat}(hx:ρ x=.pointer (some ⟨g,0,none⟩)){w:World}{a b c d e:Value}(r:w.heap[g]?=some (.cells #[a,b,c,d,e] 29 (0,0))):(execOp ρ o).run Tryz.prog w=.ok (.value (.agg #[a,b,c,d,e])) w:=by
 obtain⟨dst,op,type,pos,after,guard⟩:=o;simp only at ho;subst ho;obtain⟨q0,q1,q2,q3,q4⟩:=zax r;simp[execOp,hx,go_sem,q0,q1,q2,q3,q4]
theorem zjs(ho:o.op=.move x){v:Value}(hx:ρ x=v)(w:World):(execOp ρ o).run P w=.ok (.value v) w:=by
 obtain⟨dst,op,type,pos,after,guard⟩:=o;simp only at ho;subst ho;subst hx
 rfl
theorem zeb(ho:o.op=.extract x 0){u v:Value}(hx:ρ x=.tuple #[u,v])(w:World):(execOp ρ o).run P w=.ok (.value u) w:=by
 obtain⟨dst,op,type,pos,after,guard⟩:=o;simp only at ho;subst ho;simp[execOp,hx,go_sem]
theorem zec(ho:o.op=.extract x 1){u v:Value}(hx:ρ x=.tuple #[u,v])(w:World):(execOp ρ o).run P w=.ok (.value v) w:=by
 obtain⟨dst,op,type,pos,after,guard⟩:=o;simp only at ho;subst ho;simp[execOp,hx,go_sem]
theorem zfR(ho:o.op=.alloc 32)(w:World):(execOp ρ o).run Tryz.prog w=.ok (.value (.pointer (some ⟨w.heap.size,0,none⟩))) (w.alloc (.cells #[.int .i64 0,.string ⟨#[]⟩,.bool false,.int .i64 0,.int .i64 0] 32)):=by
 obtain⟨dst,op,type,pos,after,guard⟩:=o;simp only at ho;subst ho;simp[execOp,go_sem]
theorem zfQ(ho:o.op=.alloc 35)(w:World):(execOp ρ o).run Tryz.prog w=.ok (.value (.pointer (some ⟨w.heap.size,0,none⟩))) (w.alloc (.cells #[.int .i64 0,.int .i64 0,.int .i64 0,.int .i64 0,.slice none 0 0] 35)):=by
 obtain⟨dst,op,type,pos,after,guard⟩:=o;simp only at ho;subst ho;simp[execOp,go_sem]
theorem zea{ats:Array TypeId}(ho:o.op=.call {callee:=.value (.func f),args:=#[x],argTypes:=ats}){v:Value}(hf:ρ (.func f)=.func (.func f) #[] #[])(hx:ρ x=v)(w:World)(hen:(callFunc f #[v]).run P w=.ok (.enter f #[v]) w):(execOp ρ o).run P w=.ok (.enter f #[v]) w:=by
 obtain⟨dst,op,type,pos,after,guard⟩:=o;simp only at ho;subst ho;subst hx;have e:execOp ρ {dst,op:=.call {callee:=.value (.func f),args:=#[x],argTypes:=ats},type,pos,after,guard}=callFunc f (#[]++#[x].map ρ++#[]):=by
  show (do let d <-Deferred.ofValue (ρ (.func f)) (#[x].map ρ);invoke d.target d.args)=_;rw[hf]
  rfl
 rw[e]
 simpa using hen
theorem zho{ats:Array TypeId}(ho:o.op=.call {callee:=.value (.func f),args:=#[x,y],argTypes:=ats}){u v:Value}(hf:ρ (.func f)=.func (.func f) #[] #[])(hx:ρ x=u)(hy:ρ y=v)(w:World)(hen:(callFunc f #[u,v]).run P w=.ok (.enter f #[u,v]) w):(execOp ρ o).run P w=.ok (.enter f #[u,v]) w:=by
 obtain⟨dst,op,type,pos,after,guard⟩:=o;simp only at ho;subst ho;subst hx;subst hy;have e:execOp ρ {dst,op:=.call {callee:=.value (.func f),args:=#[x,y],argTypes:=ats},type,pos,after,guard}=callFunc f (#[]++#[x,y].map ρ++#[]):=by
  show (do let d <-Deferred.ofValue (ρ (.func f)) (#[x,y].map ρ);invoke d.target d.args)=_;rw[hf]
  rfl
 rw[e]
 simpa using hen
theorem zfT(ho:o.op=.store 32 x y){g:Nat}{s:zbs}(hx:ρ x=.pointer (some ⟨g,0,none⟩))(hy:ρ y=sesV s){w:World}{a b c d e:Value}(r:w.heap[g]?=some (.cells #[a,b,c,d,e] 32 (0,0))):(execOp ρ o).run Tryz.prog w=.ok .skip (put5 w g (.int .i64 s.L) (.string s.B) (.bool s.C) (.int .i64 s.S) (.int .i64 s.N)):=by
 obtain⟨dst,op,type,pos,after,guard⟩:=o;simp only at ho;subst ho;obtain⟨q0,q1,q2,q3,q4⟩:=zax r;have f0:=zvY _ _ 0 _ _ r;have f1:=zvY _ _ 1 _ _ r;have f2:=zvY _ _ 2 _ _ r;have f3:=zvY _ _ 3 _ _ r;have f4:=zvY _ _ 4 _ _ r;unfold sesV at hy;simp[execOp,hx,hy,go_sem,q0,q1,q2,q3,q4,f0,f1,f2,f3,f4,put5]
theorem zfS(ho:o.op=.store 35 x y){g:Nat}{z:AnsD}{so:Option Addr}{sm sc:Nat}(hx:ρ x=.pointer (some ⟨g,0,none⟩))(hy:ρ y=ansV z (.slice so sm sc)){w:World}{a b c d e:Value}(r:w.heap[g]?=some (.cells #[a,b,c,d,e] 35 (0,0))):(execOp ρ o).run Tryz.prog w=.ok .skip (put5 w g (.int .i64 z.kind) (.int .i64 z.rule) (.int .i64 z.start) (.int .i64 z.fin) (.slice so sm sc)):=by
 obtain⟨dst,op,type,pos,after,guard⟩:=o;simp only at ho;subst ho;obtain⟨q0,q1,q2,q3,q4⟩:=zax r;have f0:=zvY _ _ 0 _ _ r;have f1:=zvY _ _ 1 _ _ r;have f2:=zvY _ _ 2 _ _ r;have f3:=zvY _ _ 3 _ _ r;have f4:=zvY _ _ 4 _ _ r;unfold ansV at hy;simp[execOp,hx,hy,go_sem,q0,q1,q2,q3,q4,f0,f1,f2,f3,f4,put5]
end
theorem zme{lo:Nat}(ao:Option Addr)(rc:Nat)(cv bv fv tv ev nv kv:Value)(rs:List zaG)(d:TabD)(s:zbs)(w:World)(hr:zaY lo w (.slice ao rs.length rc) rs)(hsm:zcL rs)(hs:zbe lo w cv bv fv tv ev nv kv d):
  Calls Tryz.prog 7 #[.agg #[.slice ao rs.length rc,cv,.int .i64 d.width,bv,fv,tv,ev,nv,kv],sesV s] w fun e w'=>∃s' x,NxR rs d s s' x/\NxA w s' x e w':=by
 cases hB:zd3 rs d s
 ·exact(zkG ao rc cv bv fv tv ev nv kv rs d s w hr hsm hs hB).mono fun e w' h=>⟨_,_,.inl ⟨hB,rfl,rfl⟩,h⟩
 ·obtain⟨L,B,C,S,N⟩:=s;obtain⟨-,-,-,-,-,-,-,h0,-⟩:=zb1 hB;obtain⟨n,rfl⟩:∃n:Nat,N=n:=⟨N.toNat,by dsimp only at h0;omega⟩;exact zmd ao rc cv bv fv tv ev nv kv rs d L B C S n w hr hsm hs hB
section
variable{lo T l1 l2:Nat}{W:World}{cv bv fv tv ev nv kv:Value}{d:TabD}
open Go.RowKit
attribute [local go_sem ↓] Go.wp_at_zero Go.wp_at_succ
theorem MkR.touch{w:World}(h:MkR lo T w W):zam (fun k=>lo<=k/\k<T) w W:=⟨h.os,h.tape,h.output,h.size,fun k hk hn=>h.out k hk (by omega)⟩
structure TabW(lo T:Nat)(w:World)(cv bv fv tv ev nv kv:Value)(d:TabD):Prop where
 classes:IntW lo T w cv d.classes.length
 base:IntW lo T w bv d.base.length
 dflt:IntW lo T w fv d.dflt.length
 tag:IntW lo T w tv d.tag.length
 fin:IntW lo T w ev d.fin.length
 next:IntW lo T w nv d.next.length
 chk:IntW lo T w kv d.chk.length
theorem TabW.mk'{w:World}(h:TabW lo T w cv bv fv tv ev nv kv d)(k:MkR lo T w W):TabW lo T W cv bv fv tv ev nv kv d:=⟨h.1.mk k,h.2.mk k,h.3.mk k,h.4.mk k,h.5.mk k,h.6.mk k,h.7.mk k⟩
theorem TabW.keep{w:World}(h:TabW lo T w cv bv fv tv ev nv kv d)(hk:∀(b:Nat) (o:Obj),lo<=b->b<T->w.heap[b]?=some o->W.heap[b]?=some o):TabW lo T W cv bv fv tv ev nv kv d:=⟨h.1.keep (zvJ _) (zvJ _) hk,h.2.keep (zvJ _) (zvJ _) hk,h.3.keep (zvJ _) (zvJ _) hk,h.4.keep (zvJ _) (zvJ _) hk,h.5.keep (zvJ _) (zvJ _) hk,h.6.keep (zvJ _) (zvJ _) hk,h.7.keep (zvJ _) (zvJ _) hk⟩
theorem zgi.w{w:World}(h:zgi lo w cv bv fv tv ev nv kv d):TabW lo w.heap.size w cv bv fv tv ev nv kv d:=⟨h.1.2,h.2.2,h.3.2,h.4.2,h.5.2,h.6.2,h.7.2⟩
theorem zje(cv bv fv tv ev nv kv:Value)(d:TabD)(k:Int)(w:World)(h:TabW lo T w cv bv fv tv ev nv kv d)(hT:T<=w.heap.size)(hsm:zcu d)(hk0:0<=k)(hk1:k<=10000000):
  Calls Tryz.prog 43 #[.agg #[cv,.int .i64 d.width,bv,fv,tv,ev,nv,kv],.int .i64 k] w fun e W=>∃r:Int,e=.returned (.int .i64 r)/\0<=r/\zam (fun j=>lo<=j/\j<T) w W:=by
 have l0:d.classes.length<=1048576:=hsm _ (by simp[TabD.lists]);have l1:d.base.length<=1048576:=hsm _ (by simp[TabD.lists]);have l2:d.dflt.length<=1048576:=hsm _ (by simp[TabD.lists]);have l3:d.tag.length<=1048576:=hsm _ (by simp[TabD.lists]);have l4:d.fin.length<=1048576:=hsm _ (by simp[TabD.lists]);have l5:d.next.length<=1048576:=hsm _ (by simp[TabD.lists]);have l6:d.chk.length<=1048576:=hsm _ (by simp[TabD.lists]);obtain⟨W0,hW0⟩:∃W0,w.alloc (.cells #[cv,.int .i64 d.width,bv,fv,tv,ev,nv,kv] 39)=W0:=⟨_,rfl⟩;have hb0:Below w.heap.size w W0:=by rw[<-hW0];exact(Below.refl _ _).alloc (zvJ _) _
 have r0:W0.heap[w.heap.size]?=some (.cells #[cv,.int .i64 d.width,bv,fv,tv,ev,nv,kv] 39 (0,0)):=by rw[<-hW0];exact zvZ _ _
 have H0:=h.keep (W:=W0) (fun b o _ hl e=>(hb0.block b (by omega)).trans e);have hc0:=zb0 cv d.classes.length k W0 H0.classes (by omega);have hz0:=(zuH.1 r0).1;obtain⟨x0,x1,x2,x3,x4,x5,x6,x7⟩:=zc6 r0;clear h
 go_enter Tryz.func43,Tryz.ntmps43
 go_wp2_with fail
 refine hc0.mono ?_;rintro e W1 ⟨rfl,M1⟩;clear x0 x1 x2 x3 x4 x5 x6 x7 hW0 hc0;obtain⟨k1,hkk1⟩:∃k1:Int,k+(d.classes.length:Int)=k1:=⟨_,rfl⟩;have kb1:0<=k1/\k1<=20000000:=by omega
 rw[hkk1];clear hkk1;have r1:=(M1.out _ hz0 (.inr hT)).trans r0;have H1:=H0.mk' M1;have hc1:=zb0 bv d.base.length k1 W1 H1.base (by omega);have hz1:=(zuH.1 r1).1;obtain⟨x0,x1,x2,x3,x4,x5,x6,x7⟩:=zc6 r1
 go_wp2_with fail
 refine hc1.mono ?_;rintro e W2 ⟨rfl,M2⟩;clear x0 x1 x2 x3 x4 x5 x6 x7 hc1;obtain⟨k2,hkk2⟩:∃k2:Int,k1+(d.base.length:Int)=k2:=⟨_,rfl⟩;have kb2:0<=k2/\k2<=22000000:=by omega
 rw[hkk2];clear hkk2;have r2:=(M2.out _ hz1 (.inr hT)).trans r1;have H2:=H1.mk' M2;have hc2:=zb0 fv d.dflt.length k2 W2 H2.dflt (by omega);have hz2:=(zuH.1 r2).1;obtain⟨x0,x1,x2,x3,x4,x5,x6,x7⟩:=zc6 r2
 go_wp2_with fail
 refine hc2.mono ?_;rintro e W3 ⟨rfl,M3⟩;clear x0 x1 x2 x3 x4 x5 x6 x7 hc2;obtain⟨k3,hkk3⟩:∃k3:Int,k2+(d.dflt.length:Int)=k3:=⟨_,rfl⟩;have kb3:0<=k3/\k3<=24000000:=by omega
 rw[hkk3];clear hkk3;have r3:=(M3.out _ hz2 (.inr hT)).trans r2;have H3:=H2.mk' M3;have hc3:=zb0 tv d.tag.length k3 W3 H3.tag (by omega);have hz3:=(zuH.1 r3).1;obtain⟨x0,x1,x2,x3,x4,x5,x6,x7⟩:=zc6 r3
 go_wp2_with fail
 refine hc3.mono ?_;rintro e W4 ⟨rfl,M4⟩;clear x0 x1 x2 x3 x4 x5 x6 x7 hc3;obtain⟨k4,hkk4⟩:∃k4:Int,k3+(d.tag.length:Int)=k4:=⟨_,rfl⟩;have kb4:0<=k4/\k4<=26000000:=by omega
 rw[hkk4];clear hkk4;have r4:=(M4.out _ hz3 (.inr hT)).trans r3;have H4:=H3.mk' M4;have hc4:=zb0 ev d.fin.length k4 W4 H4.fin (by omega);have hz4:=(zuH.1 r4).1;obtain⟨x0,x1,x2,x3,x4,x5,x6,x7⟩:=zc6 r4
 go_wp2_with fail
 refine hc4.mono ?_;rintro e W5 ⟨rfl,M5⟩;clear x0 x1 x2 x3 x4 x5 x6 x7 hc4;obtain⟨k5,hkk5⟩:∃k5:Int,k4+(d.fin.length:Int)=k5:=⟨_,rfl⟩;have kb5:0<=k5/\k5<=28000000:=by omega
 rw[hkk5];clear hkk5;have r5:=(M5.out _ hz4 (.inr hT)).trans r4;have H5:=H4.mk' M5;have hc5:=zb0 nv d.next.length k5 W5 H5.next (by omega);have hz5:=(zuH.1 r5).1;obtain⟨x0,x1,x2,x3,x4,x5,x6,x7⟩:=zc6 r5
 go_wp2_with fail
 refine hc5.mono ?_;rintro e W6 ⟨rfl,M6⟩;clear x0 x1 x2 x3 x4 x5 x6 x7 hc5;obtain⟨k6,hkk6⟩:∃k6:Int,k5+(d.next.length:Int)=k6:=⟨_,rfl⟩;have kb6:0<=k6/\k6<=30000000:=by omega
 rw[hkk6];clear hkk6;have r6:=(M6.out _ hz5 (.inr hT)).trans r5;have H6:=H5.mk' M6;have hc6:=zb0 kv d.chk.length k6 W6 H6.chk (by omega);have hz6:=(zuH.1 r6).1;obtain⟨x0,x1,x2,x3,x4,x5,x6,x7⟩:=zc6 r6
 go_wp2_with fail
 refine hc6.mono ?_;rintro e W7 ⟨rfl,M7⟩;clear x0 x1 x2 x3 x4 x5 x6 x7 hc6;obtain⟨k7,hkk7⟩:∃k7:Int,k6+(d.chk.length:Int)=k7:=⟨_,rfl⟩;have kb7:0<=k7/\k7<=32000000:=by omega
 rw[hkk7];clear hkk7;have r7:=(M7.out _ hz6 (.inr hT)).trans r6;have HT:=hidR (((((((zam.of_below hb0).trans M1.touch).trans M2.touch).trans M3.touch).trans M4.touch).trans M5.touch).trans M6.touch |>.trans M7.touch);clear M1 M2 M3 M4 M5 M6 M7 H0 H1 H2 H3 H4 H5 H6 r0 r1 r2 r3 r4 r5 r6 r7;go_wp2;go_ret;exact⟨k7,rfl,kb7.1,HT.out⟩
theorem zhS(ao:Option Addr)(rc:Nat)(cv bv fv tv ev nv kv:Value)(rs:List zaG)(d:TabD)(T:Nat)(w:World)(hr:RulW lo T w (.slice ao rs.length rc) rs)(ht:TabW lo T w cv bv fv tv ev nv kv d)(hT:T<=w.heap.size)(hsm:zcu d)(hc:cRs rs<=4194304):
  Calls Tryz.prog 14 #[.agg #[.slice ao rs.length rc,cv,.int .i64 d.width,bv,fv,tv,ev,nv,kv],.int .i64 1] w fun e W=>∃r:Int,e=.returned (.int .i64 r)/\0<=r/\zam (fun j=>lo<=j/\j<T) w W:=by
 obtain⟨W0,hW0⟩:∃W0,w.alloc (.cells #[.slice ao rs.length rc,cv,.int .i64 d.width,bv,fv,tv,ev,nv,kv] 41)=W0:=⟨_,rfl⟩;have hb0:Below w.heap.size w W0:=by rw[<-hW0];exact(Below.refl _ _).alloc (zvJ _) _
 have r0:W0.heap[w.heap.size]?=some (.cells #[.slice ao rs.length rc,cv,.int .i64 d.width,bv,fv,tv,ev,nv,kv] 41 (0,0)):=by rw[<-hW0];exact zvZ _ _
 have hs0:=hb0.size;have c1:=zki (.slice ao rs.length rc) rs 1 W0 (hr.keep (zvJ _) (zvJ _) (fun b o _ hl e=>(hb0.block b (by omega)).trans e)) (by omega);rw[show ((1:Nat):Int)=1 from rfl] at c1;have T0:=ht.keep (W:=W0) (fun b o _ hl e=>(hb0.block b (by omega)).trans e);have hz0:=(zuH.1 r0).1;obtain⟨q0,q1,q2,q3,q4,q5,q6,q7,q8⟩:=zbb r0;obtain⟨kk,Hkk⟩:∃kk:Nat,Hid (1+cRs rs=kk):=⟨_,rfl⟩;have hkb:(kk:Int)<=10000000:=by have:=Hkk.out;omega
 rw[Hkk.out] at c1;clear hr ht
 go_enter Tryz.func14,Tryz.ntmps14
 go_wp2_with fail
 refine c1.mono ?_;rintro e W1 ⟨rfl,M1⟩;have r1:=(M1.out _ hz0 (.inr hT)).trans r0;have c2:=zje cv bv fv tv ev nv kv d (kk:Int) W1 (T0.mk' M1) (zvK hT (zvK hs0 M1.size)) hsm (by omega) hkb;clear q0 q1 q2 q3 q4 q5 q6 q7 q8 hW0 c1;obtain⟨q0,q1,q2,q3,q4,q5,q6,q7,q8⟩:=zbb r1
 go_wp2_with fail
 refine c2.mono ?_;rintro e W2 ⟨r,rfl,hr0,t2⟩;have HT:=hidR (((zam.of_below hb0).trans M1.touch).trans t2);clear c2 q0 q1 q2 q3 q4 q5 q6 q7 q8 M1 t2 T0 r0 r1;go_wp2;go_ret;exact⟨r,rfl,hr0,HT.out⟩
theorem zjW(ao ao2:Option Addr)(rc rc2:Nat)(cv bv fv tv ev nv kv cv2 bv2 fv2 tv2 ev2 nv2 kv2:Value)(rs:List zaG)(d:TabD)(w:World)(hr:zaY l1 w (.slice ao rs.length rc) rs)(hs:zbe l1 w cv bv fv tv ev nv kv d)(hr2:zaY l2 w (.slice ao2 rs.length rc2) rs)(hs2:zbe l2 w cv2 bv2 fv2 tv2 ev2 nv2 kv2 d):
  Calls Tryz.prog 13 #[.agg #[.slice ao rs.length rc,cv,.int .i64 d.width,bv,fv,tv,ev,nv,kv],.agg #[.slice ao2 rs.length rc2,cv2,.int .i64 d.width,bv2,fv2,tv2,ev2,nv2,kv2]] w fun e w'=>e=.returned (.bool true)/\Below w.heap.size w w':=by
 obtain⟨W0,hW0⟩:∃W0,(w.alloc (.cells #[.slice ao rs.length rc,cv,.int .i64 d.width,bv,fv,tv,ev,nv,kv] 41)).alloc (.cells #[.slice ao2 rs.length rc2,cv2,.int .i64 d.width,bv2,fv2,tv2,ev2,nv2,kv2] 41)=W0:=⟨_,rfl⟩;have hb0:Below w.heap.size w W0:=by rw[<-hW0];exact((Below.refl _ _).alloc (zvJ _) _).alloc (by simp) _
 have r0:W0.heap[w.heap.size]?=some (.cells #[.slice ao rs.length rc,cv,.int .i64 d.width,bv,fv,tv,ev,nv,kv] 41 (0,0)):=by rw[<-hW0];exact heap_alloc2_old _ _ _
 have p0:W0.heap[w.heap.size+1]?=some (.cells #[.slice ao2 rs.length rc2,cv2,.int .i64 d.width,bv2,fv2,tv2,ev2,nv2,kv2] 41 (0,0)):=by rw[<-hW0];exact heap_alloc2_new _ _ _
 have c1:=znI _ _ rs W0 (hr.below hb0) (hr2.below hb0);have c2:=fun W (hb:Below w.heap.size w W)=>znJ cv bv fv tv ev nv kv cv2 bv2 fv2 tv2 ev2 nv2 kv2 d W (hs.below hb) (hs2.below hb)
 obtain⟨q0,q1,q2,q3,q4,q5,q6,q7,q8⟩:=zbb r0;obtain⟨x0,x1,x2,x3,x4,x5,x6,x7,x8⟩:=zbb p0;clear hr hs hr2 hs2
 go_enter Tryz.func13,Tryz.ntmps13
 go_wp2_with fail
 refine c1.mono ?_;rintro e W1 ⟨rfl,hb1⟩;have bl1:=zaa hb0 hb0.size hb1;have c2:=c2 W1 bl1;clear q0 q1 q2 q3 q4 q5 q6 q7 q8 x0 x1 x2 x3 x4 x5 x6 x7 x8 hW0 c1;obtain⟨q0,q1,q2,q3,q4,q5,q6,q7,q8⟩:=zbb (zag r0 hb1);obtain⟨x0,x1,x2,x3,x4,x5,x6,x7,x8⟩:=zbb (zag p0 hb1)
 go_wp2_with fail
 refine c2.mono ?_;rintro e W2 ⟨rfl,hb2⟩;have bl2:=zaa bl1 bl1.size hb2;clear c2 q0 q1 q2 q3 q4 q5 q6 q7 q8 x0 x1 x2 x3 x4 x5 x6 x7 x8;go_wp2;go_ret;exact⟨rfl,bl2⟩
theorem zeI(a b c d:Int)(v v2:Value)(sp:List (Int×Int))(w:World)(h1:zal l1 w v sp)(h2:zal l2 w v2 sp):
  Calls Tryz.prog 12 #[.agg #[.int .i64 a,.int .i64 b,.int .i64 c,.int .i64 d,v],.agg #[.int .i64 a,.int .i64 b,.int .i64 c,.int .i64 d,v2]] w fun e w'=>e=.returned (.bool true)/\Below w.heap.size w w':=by
 obtain⟨W0,hW0⟩:∃W0,(w.alloc (.cells #[.int .i64 a,.int .i64 b,.int .i64 c,.int .i64 d,v] 35)).alloc (.cells #[.int .i64 a,.int .i64 b,.int .i64 c,.int .i64 d,v2] 35)=W0:=⟨_,rfl⟩;have hb0:Below w.heap.size w W0:=by rw[<-hW0];exact((Below.refl _ _).alloc (zvJ _) _).alloc (by simp) _
 have r0:W0.heap[w.heap.size]?=some (.cells #[.int .i64 a,.int .i64 b,.int .i64 c,.int .i64 d,v] 35 (0,0)):=by rw[<-hW0];exact heap_alloc2_old _ _ _
 have p0:W0.heap[w.heap.size+1]?=some (.cells #[.int .i64 a,.int .i64 b,.int .i64 c,.int .i64 d,v2] 35 (0,0)):=by rw[<-hW0];exact heap_alloc2_new _ _ _
 have e1:(a != a)=false:=by simp
 have e2:(b != b)=false:=by simp
 have e3:(c != c)=false:=by simp
 have e4:(d != d)=false:=by simp
 have c1:=znG v v2 sp W0 (h1.below hb0) (h2.below hb0);obtain⟨q0,q1,q2,q3,q4⟩:=zax r0;obtain⟨x0,x1,x2,x3,x4⟩:=zax p0
 go_enter Tryz.func12,Tryz.ntmps12
 go_wp2_with fail
 refine c1.mono ?_;rintro e W1 ⟨rfl,hb1⟩;have bl1:=zaa hb0 hb0.size hb1;clear c1 q0 q1 q2 q3 q4 x0 x1 x2 x3 x4 hW0;go_wp2;go_ret;exact⟨rfl,bl1⟩
theorem zjc{B:Nat}(a b c d:Int)(so:Option Addr)(m cap:Nat)(sp:List (Int×Int))(w:World)(h:PvO B w (.slice so m cap) sp)(hn:sp.length<=100000):
  Calls Tryz.prog 15 #[.agg #[.int .i64 a,.int .i64 b,.int .i64 c,.int .i64 d,.slice so m cap],.int .i64 1] w fun e w'=>e=.returned (.int .i64 (1+2*(sp.length:Int)))/\PvO B w' (.slice so m cap) (mkRP sp.length 1)/\zam (fun k=>(Value.slice so m cap).ownBlock=some k) w w':=by
 obtain⟨W0,hW0⟩:∃W0,w.alloc (.cells #[.int .i64 a,.int .i64 b,.int .i64 c,.int .i64 d,.slice so m cap] 35)=W0:=⟨_,rfl⟩;have hb0:Below w.heap.size w W0:=by rw[<-hW0];exact(Below.refl _ _).alloc (zvJ _) _
 have r0:W0.heap[w.heap.size]?=some (.cells #[.int .i64 a,.int .i64 b,.int .i64 c,.int .i64 d,.slice so m cap] 35 (0,0)):=by rw[<-hW0];exact zvZ _ _
 have c1:=zkh 1 W0 (zac h hb0) (by omega) hn;obtain⟨q0,q1,q2,q3,q4⟩:=zax r0;clear h
 go_enter Tryz.func15,Tryz.ntmps15
 go_wp2_with fail
 refine c1.mono ?_;rintro e W1 ⟨rfl,own1,g1⟩;have HO:=hidR own1;have HT:=hidR ((zam.of_below (S:=fun k=>(Value.slice so m cap).ownBlock=some k) hb0).grown g1 (fun k e=>.inl e));clear c1 q0 q1 q2 q3 q4 hW0 own1 g1;go_wp2;go_ret;exact⟨rfl,HO.out,HT.out⟩
theorem zi3(a b c d:Int)(v:Value)(n:Nat)(w:World)(h:zal lo w v (mkRP n 1))(hn:n<=100000):
  Calls Tryz.prog 16 #[.agg #[.int .i64 a,.int .i64 b,.int .i64 c,.int .i64 d,v],.int .i64 1] w fun e w'=>e=.returned (.int .i64 (1+2*(n:Int)))/\Below w.heap.size w w':=by
 obtain⟨W0,hW0⟩:∃W0,w.alloc (.cells #[.int .i64 a,.int .i64 b,.int .i64 c,.int .i64 d,v] 35)=W0:=⟨_,rfl⟩;have hb0:Below w.heap.size w W0:=by rw[<-hW0];exact(Below.refl _ _).alloc (zvJ _) _
 have r0:W0.heap[w.heap.size]?=some (.cells #[.int .i64 a,.int .i64 b,.int .i64 c,.int .i64 d,v] 35 (0,0)):=by rw[<-hW0];exact zvZ _ _
 have c1:=zj4 (n:=n) 1 W0 (h.below hb0) (by omega) hn;obtain⟨q0,q1,q2,q3,q4⟩:=zax r0;have hnn:decide ((1:Int)+2*(n:Int)<0)=false:=by simp;omega
 go_enter Tryz.func16,Tryz.ntmps16
 go_wp2_with fail
 refine c1.mono ?_;rintro e W1 ⟨rfl,hw1⟩;subst W1;go_wp2;go_ret;exact⟨rfl,hb0⟩
end
variable{rs:List zaG}{d:TabD}{s:zbs}{w W W':World}{v m:Value}{lo:Nat}{e:Ending}
open Go.RowKit
attribute [local go_sem ↓] Go.wp_at_zero Go.wp_at_succ
theorem zug{s':zbs}{x:AnsD}(h:NxR rs d s s' x):x.spans.length<=501:=by
 rcases h with ⟨-,-,rfl⟩|⟨hB,b,-,-,-,h4,a,sp,-,h6,-,rfl⟩|⟨-,-,-,rfl⟩
 ·simp[AnsD.zero]
 ·rcases h6 with ⟨-,rfl⟩|⟨-,h6⟩
  ·obtain⟨hl,-⟩:=zb1 hB;have hn:=zlH hB b;have hil:(namT d s b).toNat<rs.length:=by omega
   simp only[zc2,zuK] at hl;have hok:=zuP.1 hl.1.2 (rs.getD (namT d s b).toNat .zero) (by simp[List.getD,hil]);unfold okR zbP at hok;simp only[zuK,zvX] at hok;rw[zcD];omega
  ·exact zrd h6
 ·simp
theorem zdl(xs:Array Value)(w:World):(callFunc 8 xs).run Tryz.prog w=.ok (.enter 8 xs) w:=by kernel_rfl
theorem zdm(xs:Array Value)(w:World):(callFunc 9 xs).run Tryz.prog w=.ok (.enter 9 xs) w:=by kernel_rfl
theorem zhJ(xs:Array Value)(w:World):(callFunc 13 xs).run Tryz.prog w=.ok (.enter 13 xs) w:=by kernel_rfl
theorem zog{B:Nat}{e:TypeId}{sz n:Nat}{xs:List Value}(h:w.ownsRow B e sz v n xs):∃ao nn c,v=.slice ao nn c:=by
 rcases h.2 with ⟨e,_⟩|⟨g,c,_,e,_⟩
 ·exact⟨_,_,_,e⟩
 ·exact⟨_,_,_,e⟩
theorem ztN{A B:Array Value}{s t:TypeId}:Below W.heap.size W ((W.alloc (.cells A s)).alloc (.cells B t))/\((W.alloc (.cells A s)).alloc (.cells B t)).heap[W.heap.size]?=some (.cells A s (0,0))/\((W.alloc (.cells A s)).alloc (.cells B t)).heap[W.heap.size+1]?=some (.cells B t (0,0)):=
 ⟨((Below.refl _ _).alloc (zvJ _) _).alloc (by simp) _,heap_alloc2_old _ _ _,heap_alloc2_new _ _ _⟩
theorem zam.under{S:Nat->Prop}{w0:World}(t:zam S w W)(hb:Below w0.heap.size w0 w)(hS:∀k,k<w0.heap.size->¬S k):Below w0.heap.size w0 W:=
 ⟨t.os.trans hb.os,t.tape.trans hb.tape,t.output.trans hb.output,zvK hb.size t.size,fun k hk=>(t.same k (zvL hk hb.size) (hS k hk)).trans (hb.block k hk)⟩
theorem ziX(xs:Array Value)(w:World):(callFunc 7 xs).run Tryz.prog w=.ok (.enter 7 xs) w:=by kernel_rfl
theorem zeZ(xs:Array Value)(w:World):(callFunc 10 xs).run Tryz.prog w=.ok (.enter 10 xs) w:=by kernel_rfl
theorem zcn{xs:List Int}(h:zbr lo w v xs):∃ao cap,v=.slice ao xs.length cap:=⟨_,_,h.choose_spec.choose_spec.1⟩
def MatV(lo:Nat)(rs:List zaG)(d:TabD)(m:Value)(W:World):Prop:=∃ao rc cv bv fv tv ev nv kv,m=.agg #[.slice ao rs.length rc,cv,.int .i64 d.width,bv,fv,tv,ev,nv,kv]/\MatB lo W (.slice ao rs.length rc) cv bv fv tv ev nv kv rs d
theorem MatV.below(h:MatV lo rs d m W)(hb:Below W.heap.size W W'):MatV lo rs d m W':=by
 obtain⟨ao,rc,cv,bv,fv,tv,ev,nv,kv,rfl,h⟩:=h;exact⟨ao,rc,cv,bv,fv,tv,ev,nv,kv,rfl,h.below hb⟩
theorem MatV.of{l:Nat}(h:∃ao' rc' cv' bv' fv' tv' ev' nv' kv',e=.returned (.agg #[.slice ao' rs.length rc',cv',.int .i64 d.width,bv',fv',tv',ev',nv',kv'])/\MatB l W' (.slice ao' rs.length rc') cv' bv' fv' tv' ev' nv' kv' rs d/\Below W.heap.size W W')(hl:lo<=l):∃v,e=.returned v/\MatV lo rs d v W'/\Below W.heap.size W W':=by
 obtain⟨ao,rc,cv,bv,fv,tv,ev,nv,kv,rfl,h,hb⟩:=h;exact⟨_,rfl,⟨ao,rc,cv,bv,fv,tv,ev,nv,kv,rfl,h.mono hl⟩,hb⟩
def NxO(rs:List zaG)(d:TabD)(s:zbs)(W:World)(e:Ending)(w':World):Prop:=∃s' x so sm sc,e=.returned (.tuple #[sesV s',ansV x (.slice so sm sc)])/\NxR rs d s s' x/\w'.ownsRow W.heap.size 71 2 (.slice so sm sc) x.spans.length (pv x.spans)/\Below W.heap.size W w'
theorem NxO.of{w':World}(h:∃s' x,NxR rs d s s' x/\NxA W s' x e w'):NxO rs d s W e w':=by
 obtain⟨s',x,hR,v,rfl,ho,hb⟩:=h;obtain⟨so,sm,sc,rfl⟩:=zog ho;exact⟨s',x,so,sm,sc,rfl,hR,ho,hb⟩
theorem ztu(h:MatV lo rs d m W)(hsm:zcL rs)(s:zbs):Calls Tryz.prog 7 #[m,sesV s] W fun e w'=>NxO rs d s W e w':=by
 obtain⟨ao,rc,cv,bv,fv,tv,ev,nv,kv,rfl,h⟩:=h;exact(zme ao rc cv bv fv tv ev nv kv rs d s W h.rul hsm h.tab.tab).mono fun e w' h=>.of h
theorem zpP(h:MatV lo rs d m W)(hsm:zcL rs)(hts:zcu d)(hBr:za7 W)(s:zbs):Calls Tryz.prog 10 #[m,sesV s] W fun e w'=>NxO rs d s W e w':=by
 obtain⟨ao,rc,cv,bv,fv,tv,ev,nv,kv,rfl,h⟩:=h;exact(zlu ao rc cv bv fv tv ev nv kv rs d s W h.rul hsm h.tab.tab hts hBr).mono fun e w' h=>.of h
theorem znT(ao:Option Addr)(rc:Nat)(cv bv fv tv ev nv kv:Value)(rs:List zaG)(d:TabD)(s:zbs)(w:World)(hr:zaY lo w (.slice ao rs.length rc) rs)(hs:zbe lo w cv bv fv tv ev nv kv d)(hsB:s.B.size<=9223372036854775807)(hBr:za7 w):
  Calls Tryz.prog 3 #[.agg #[.slice ao rs.length rc,cv,.int .i64 d.width,bv,fv,tv,ev,nv,kv],.agg #[.int .i64 s.L,.string s.B,.bool s.C,.int .i64 s.S,.int .i64 s.N]] w fun r w'=>r=.returned (.bool true)/\Below w.heap.size w w':=by
 have hpos:=zbK hBr;have hmix:Tryz.prog.follows .mixedOrders=true:=by kernel_rfl
 obtain⟨hb0,r0,p0⟩:=ztN (W:=w) (A:=#[.slice ao rs.length rc,cv,.int .i64 d.width,bv,fv,tv,ev,nv,kv]) (B:=#[.int .i64 s.L,.string s.B,.bool s.C,.int .i64 s.S,.int .i64 s.N]) (s:=27) (t:=29);obtain⟨W0,hW0⟩:∃W0,(w.alloc (.cells #[.slice ao rs.length rc,cv,.int .i64 d.width,bv,fv,tv,ev,nv,kv] 27)).alloc (.cells #[.int .i64 s.L,.string s.B,.bool s.C,.int .i64 s.S,.int .i64 s.N] 29)=W0:=⟨_,rfl⟩;rw[hW0] at hb0 r0 p0;have c1:=zkL ao rc cv bv fv tv ev nv kv rs d W0 (hr.below hb0) (hs.below hb0);obtain⟨q0,q1,q2,q3,q4,q5,q6,q7,q8⟩:=zbb r0
 go_enter Tryz.func3,Tryz.ntmps3
 go_wp2_with fail
 refine c1.mono ?_;rintro e w1 ⟨l,rfl,hl0,hl1,hsmall,hb1⟩;have bl1:=zaa hb0 hb0.size hb1;clear q0 q1 q2 q3 q4 q5 q6 q7 q8 hW0 c1
 by_cases hl:l<0
 ·go_wp2;go_ret;exact⟨rfl,bl1⟩
 obtain⟨hsm,hts,hcr⟩:=hsmall (by omega);have c2:=zkP s l w1 (by omega) (by omega) hsB;have p1:=zag p0 hb1;have r1:=zag r0 hb1;obtain⟨y0,y1,y2,y3,y4⟩:=zax p1;clear hsmall
 go_wp2_with fail
 refine c2.mono ?_;rintro e w2 ⟨rfl,hb2⟩;have bl2:=zaa bl1 bl1.size hb2;have p2:=zag p1 hb2;have r2:=zag r1 hb2;clear c2 y0 y1 y2 y3 y4 p0 p1 r0 r1
 by_cases hneg:l-(s.B.size:Int)<0
 ·rw[zv3 hneg];go_wp2;go_ret;exact⟨rfl,bl2⟩
 rw[zv2 hneg];have HD:Hid (∀W,Below w2.heap.size w2 W->W.heap[w.heap.size]?=some (.cells #[.slice ao rs.length rc,cv,.int .i64 d.width,bv,fv,tv,ev,nv,kv] 27 (0,0))/\W.heap[w.heap.size+1]?=some (.cells #[.int .i64 s.L,.string s.B,.bool s.C,.int .i64 s.S,.int .i64 s.N] 29 (0,0))/\Below w.heap.size w W):=fun W hb=>⟨zag r2 hb,zag p2 hb,zaa bl2 bl2.size hb⟩
 have Hmc:Hid (∀W,Below w2.heap.size w2 W->Calls Tryz.prog 8 #[.agg #[.slice ao rs.length rc,cv,.int .i64 d.width,bv,fv,tv,ev,nv,kv]] W fun e w'=>∃ao' rc' cv' bv' fv' tv' ev' nv' kv',e=.returned (.agg #[.slice ao' rs.length rc',cv',.int .i64 d.width,bv',fv',tv',ev',nv',kv'])/\MatB W.heap.size w' (.slice ao' rs.length rc') cv' bv' fv' tv' ev' nv' kv' rs d/\Below W.heap.size W w'):=fun W hb=>zkT ao rc cv bv fv tv ev nv kv rs d W (hr.below (HD.out W hb).2.2) hsm (hs.below (HD.out W hb).2.2) hts
 have HBr:Hid (∀W,Below w2.heap.size w2 W->za7 W):=fun W hb=>hBr.keep ((HD.out W hb).2.2.block 0 hpos)
 have xm:∀(X:World),Below w2.heap.size w2 X->∀s':ExtU X,(∀o,s'.W.cell? ⟨w.heap.size,o,none⟩=(#[.slice ao rs.length rc,cv,.int .i64 d.width,bv,fv,tv,ev,nv,kv]:Array Value)[o]?)/\(∀o,s'.W.cell? ⟨w.heap.size+1,o,none⟩=(#[.int .i64 s.L,.string s.B,.bool s.C,.int .i64 s.S,.int .i64 s.N]:Array Value)[o]?):=fun X hX s'=>⟨zaj (HD.out s'.W (zaa hX hX.size s'.h)).1,zaj (HD.out s'.W (zaa hX hX.size s'.h)).2.1⟩
 have Hxm:=hidR xm;clear hr hs hBr r2 p2 xm;have k0:=fun s':ExtU w2=>(Hxm.out w2 (Below.refl _ _) s').1
 have k1:=fun s':ExtU w2=>(Hxm.out w2 (Below.refl _ _) s').2
 go_upto_region 8 with fail
 refine zqW _ _ _ _ _ _ _ _ _ _ _ _ 27 28 29 30 31 26 32 33 6 7 (.agg #[.slice ao rs.length rc,cv,.int .i64 d.width,bv,fv,tv,ev,nv,kv]) (sesV s) (MatV w2.heap.size rs d) (NxR rs d s) 8 9 7 hmix (by kernel_rfl) (by decide) (by simp) rfl rfl rfl rfl rfl rfl rfl rfl rfl rfl rfl rfl (fun l h=>h ⟨0,.data⟩ (by simp) rfl) (fun l h=>h ⟨2,.data⟩ (by simp) rfl) (fun l h=>h ⟨1,.data⟩ (by simp) rfl) (fun l h=>h ⟨3,.data⟩ (by simp) rfl) (fun l h=>h ⟨4,.data⟩ (by simp) rfl) (fun l h=>h ⟨5,.data⟩ (by simp) rfl) (fun l h=>h ⟨5,.data⟩ (by simp) rfl) (fun l h=>h ⟨4,.phase⟩ (by simp) rfl) (fun l h=>h ⟨8,.data⟩ (by simp) rfl) (fun l h=>h ⟨6,.data⟩ (by simp) rfl) (fun l h=>h ⟨4,.phase⟩ (by simp) rfl) (fun l h=>h ⟨9,.data⟩ (by simp) rfl) (fun l h=>h ⟨7,.data⟩ (by simp) rfl)
  (fun a W ha hb=>zhq (.inl rfl) rfl ((ha.ev 2 (by decide)).trans rfl) (HD.out W hb).1) (fun a W ha hb=>zhp rfl ((ha.ev 3 (by decide)).trans rfl) (HD.out W hb).2.1)
  (fun a W h=>zea rfl rfl h W (zdl _ _)) (fun a W h=>zea rfl rfl h W (zdm _ _)) (fun a W m h1 h2=>zho rfl rfl h1 h2 W (ziX _ _)) (fun a W v h=>zjs rfl h W) (fun a W u v h=>zeb rfl h W) (fun a W u v h=>zec rfl h W)
  (fun a W=>zfR rfl W) (fun a W=>zfQ rfl W) (fun a W g s' h1 h2 r=>zfT rfl h1 h2 r) (fun a W g x so sm sc h1 h2 r=>zfS rfl h1 h2 r)
  (fun W hb=>(Hmc.out W hb).mono fun e w' h=>MatV.of h hb.size) (fun W=>zei s W) (fun W m hb hm=>ztu hm hsm s) (fun m W W' h hb=>h.below hb) ?_
 rintro a w3 m s1 x1 so sm sc g6 g7 rfl hb3 hR hown hg6 hg7 hs6 ha7;simp only[List.foldl_cons,List.foldl_nil,Act.put,zvz,List.set_cons_zero,List.set_cons_succ,sesV,ansV];obtain⟨r3,p3,bl3⟩:=HD.out w3 hb3;have z3:=zbb r3;obtain⟨q0,q1,q2,q3,q4,q5,q6,q7,q8⟩:=z3;clear r3 p3
 go_wp2_with fail
 refine(Hmc.out w3 hb3).mono ?_;rintro e w4 ⟨ao1,rc1,cv1,bv1,fv1,tv1,ev1,nv1,kv1,rfl,hM4,hb4⟩;clear q0 q1 q2 q3 q4 q5 q6 q7 q8;obtain⟨ca,cc,rfl⟩:=zcn hM4.tab.tab.classes;obtain⟨ba,bc,rfl⟩:=zcn hM4.tab.tab.base;obtain⟨fa,fc,rfl⟩:=zcn hM4.tab.tab.dflt;obtain⟨ta,tc,rfl⟩:=zcn hM4.tab.tab.tag;obtain⟨ea,ec,rfl⟩:=zcn hM4.tab.tab.fin;obtain⟨na,nc,rfl⟩:=zcn hM4.tab.tab.next;obtain⟨ka,kc,rfl⟩:=zcn hM4.tab.tab.chk
 go_upto_region 10 with fail
 obtain⟨w5,hw5⟩:∃w5,w4.alloc (.cells #[.slice ao1 rs.length rc1,.slice ca d.classes.length cc,.int .i64 d.width,.slice ba d.base.length bc,.slice fa d.dflt.length fc,.slice ta d.tag.length tc,.slice ea d.fin.length ec,.slice na d.next.length nc,.slice ka d.chk.length kc] 41)=w5:=⟨_,rfl⟩;have hb5:Below w4.heap.size w4 w5:=by rw[<-hw5];exact(Below.refl _ _).alloc (zvJ _) _
 have r5:w5.heap[w4.heap.size]?=some (.cells #[.slice ao1 rs.length rc1,.slice ca d.classes.length cc,.int .i64 d.width,.slice ba d.base.length bc,.slice fa d.dflt.length fc,.slice ta d.tag.length tc,.slice ea d.fin.length ec,.slice na d.next.length nc,.slice ka d.chk.length kc] 41 (0,0)):=by rw[<-hw5];exact zvZ _ _
 rw[hw5];have b35:Below w3.heap.size w3 w5:=zaa hb4 hb4.size hb5;have b25:Below w2.heap.size w2 w5:=zaa hb3 hb3.size b35;have HM5:=hidR (fun W (hb:Below w5.heap.size w5 W)=>(hM4.below hb5).below hb);have H5:Hid (∀W,Below w5.heap.size w5 W->W.heap[w4.heap.size]?=some (.cells #[.slice ao1 rs.length rc1,.slice ca d.classes.length cc,.int .i64 d.width,.slice ba d.base.length bc,.slice fa d.dflt.length fc,.slice ta d.tag.length tc,.slice ea d.fin.length ec,.slice na d.next.length nc,.slice ka d.chk.length kc] 41 (0,0))/\W.heap[w.heap.size+1]?=some (.cells #[.int .i64 s.L,.string s.B,.bool s.C,.int .i64 s.S,.int .i64 s.N] 29 (0,0))):=fun W hb=>⟨zag r5 hb,(HD.out W (zaa b25 b25.size hb)).2.1⟩
 have HW4:=hidR (fun W (hb:Below w4.heap.size w4 W)=>And.intro (hM4.rulW.keep (W:=W) (zvJ _) (zvJ _) fun b _ _ hl e=>(hb.block b hl).trans e) (hM4.tab.w.keep (W:=W) fun b _ _ hl e=>(hb.block b hl).trans e));clear hM4 r5 hw5;refine ztQ _ _ _ _ _ _ _ _ _ _ _ 37 38 39 40 36 41 42 9 10 (.agg #[.slice ao1 rs.length rc1,.slice ca d.classes.length cc,.int .i64 d.width,.slice ba d.base.length bc,.slice fa d.dflt.length fc,.slice ta d.tag.length tc,.slice ea d.fin.length ec,.slice na d.next.length nc,.slice ka d.chk.length kc]) (sesV s) (MatV w3.heap.size rs d) (NxR rs d s) 9 10 hmix (by kernel_rfl) (by decide) (by simp) rfl rfl rfl rfl rfl rfl rfl rfl rfl rfl rfl (fun l h=>h ⟨1,.data⟩ (by simp) rfl) (fun l h=>h ⟨0,.data⟩ (by simp) rfl) (fun l h=>h ⟨2,.data⟩ (by simp) rfl) (fun l h=>h ⟨3,.data⟩ (by simp) rfl) (fun l h=>h ⟨4,.data⟩ (by simp) rfl) (fun l h=>h ⟨4,.data⟩ (by simp) rfl) (fun l h=>h ⟨3,.phase⟩ (by simp) rfl) (fun l h=>h ⟨7,.data⟩ (by simp) rfl) (fun l h=>h ⟨5,.data⟩ (by simp) rfl) (fun l h=>h ⟨3,.phase⟩ (by simp) rfl) (fun l h=>h ⟨8,.data⟩ (by simp) rfl) (fun l h=>h ⟨6,.data⟩ (by simp) rfl)
  (fun a W ha hb=>zhq (.inr rfl) rfl ((ha.ev 8 (by decide)).trans rfl) (H5.out W hb).1) (fun a W ha hb=>zhp rfl ((ha.ev 3 (by decide)).trans rfl) (H5.out W hb).2)
  (fun a W h=>zea rfl rfl h W (zdm _ _)) (fun a W m h1 h2=>zho rfl rfl h1 h2 W (zeZ _ _)) (fun a W v h=>zjs rfl h W) (fun a W u v h=>zeb rfl h W) (fun a W u v h=>zec rfl h W)
  (fun a W=>zfR rfl W) (fun a W=>zfQ rfl W) (fun a W g s' h1 h2 r=>zfT rfl h1 h2 r) (fun a W g x so sm sc h1 h2 r=>zfS rfl h1 h2 r)
  (fun W=>zei s W) (fun W m hb hm=>zpP hm hsm hts (HBr.out W (zaa b25 b25.size hb)) s) (fun W hb=>⟨_,_,_,_,_,_,_,_,_,rfl,HM5.out W hb⟩) ?_
 rintro a w6 s2 x2 so2 sm2 sc2 g9 g10 rfl hb6 hR2 hown2 hg9 hg10 hs9 ha10;obtain⟨rfl,rfl⟩:=zp0 hR hR2;simp only[List.foldl_cons,List.foldl_nil,Act.put,zvz,List.set_cons_zero,List.set_cons_succ,sesV,ansV];have b36:Below w3.heap.size w3 w6:=zaa b35 b35.size hb6;have hlen:=zug hR;simp only[sesA,sesC,ansC] at hs6 ha7 hs9 ha10;have H6:Hid (∀W,Below w6.heap.size w6 W->W.heap[g6]?=some (.cells #[.int .i64 s1.L,.string s1.B,.bool s1.C,.int .i64 s1.S,.int .i64 s1.N] 32 (0,0))/\W.heap[g9]?=some (.cells #[.int .i64 s1.L,.string s1.B,.bool s1.C,.int .i64 s1.S,.int .i64 s1.N] 32 (0,0))/\W.heap[g7]?=some (.cells #[.int .i64 x1.kind,.int .i64 x1.rule,.int .i64 x1.start,.int .i64 x1.fin,.slice so sm sc] 35 (0,0))/\W.heap[g10]?=some (.cells #[.int .i64 x1.kind,.int .i64 x1.rule,.int .i64 x1.start,.int .i64 x1.fin,.slice so2 sm2 sc2] 35 (0,0))/\PvO w2.heap.size W (.slice so sm sc) x1.spans/\PvO w5.heap.size W (.slice so2 sm2 sc2) x1.spans):=fun W hb=>⟨zag (zag hs6 b36) hb,zag hs9 hb,zag (zag ha7 b36) hb,zag ha10 hb,zac (zac hown b36) hb,zac hown2 hb⟩
 have H3:Hid (∀W,Below w3.heap.size w3 W->W.heap[g6]?=some (.cells #[.int .i64 s1.L,.string s1.B,.bool s1.C,.int .i64 s1.S,.int .i64 s1.N] 32 (0,0))/\W.heap[g7]?=some (.cells #[.int .i64 x1.kind,.int .i64 x1.rule,.int .i64 x1.start,.int .i64 x1.fin,.slice so sm sc] 35 (0,0))/\PvO w2.heap.size W (.slice so sm sc) x1.spans):=fun W hb=>⟨zag hs6 hb,zag ha7 hb,zac hown hb⟩
 obtain⟨u6,u9,-⟩:=H6.out w6 (Below.refl _ _);obtain⟨y0,y1,y2,y3,y4⟩:=zax u6;obtain⟨z0,z1,z2,z3,z4⟩:=zax u9;clear u6 u9
 go_wp2_with fail
 refine(zdV s1 _).mono ?_;rintro e w7 ⟨rfl,hb7⟩;clear y0 y1 y2 y3 y4 z0 z1 z2 z3 z4;obtain⟨-,-,u7,u10,o7,o10⟩:=H6.out w7 hb7;obtain⟨y0,y1,y2,y3,y4⟩:=zax u7;obtain⟨z0,z1,z2,z3,z4⟩:=zax u10;clear u7 u10
 go_wp2_with fail
 refine(zeI x1.kind x1.rule x1.start x1.fin _ _ x1.spans w7 (o10.read (by omega)) (o7.read (by omega))).mono ?_;rintro e w8 ⟨rfl,hb8⟩;have b68:Below w6.heap.size w6 w8:=zaa hb7 hb7.size hb8;have b58:Below w5.heap.size w5 w8:=zaa hb6 hb6.size b68;have b38:Below w3.heap.size w3 w8:=zaa b35 b35.size b58;have b28:Below w2.heap.size w2 w8:=zaa b25 b25.size b58;clear y0 y1 y2 y3 y4 z0 z1 z2 z3 z4 o7 o10;have kk:=fun s':ExtU w8=>zbb (H5.out s'.W (zaa b58 b58.size s'.h)).1
 have jj:=fun s':ExtU w8=>zbb (HD.out s'.W (zaa b28 b28.size s'.h)).1
 have y0:=fun s'=>(kk s').1
 have z0:=fun s'=>(jj s').1
 have y1:=fun s'=>(kk s').2.1
 have z1:=fun s'=>(jj s').2.1
 have y2:=fun s'=>(kk s').2.2.1
 have z2:=fun s'=>(jj s').2.2.1
 have y3:=fun s'=>(kk s').2.2.2.1
 have z3:=fun s'=>(jj s').2.2.2.1
 have y4:=fun s'=>(kk s').2.2.2.2.1
 have z4:=fun s'=>(jj s').2.2.2.2.1
 have y5:=fun s'=>(kk s').2.2.2.2.2.1
 have z5:=fun s'=>(jj s').2.2.2.2.2.1
 have y6:=fun s'=>(kk s').2.2.2.2.2.2.1
 have z6:=fun s'=>(jj s').2.2.2.2.2.2.1
 have y7:=fun s'=>(kk s').2.2.2.2.2.2.2.1
 have z7:=fun s'=>(jj s').2.2.2.2.2.2.2.1
 have y8:=fun s'=>(kk s').2.2.2.2.2.2.2.2
 have z8:=fun s'=>(jj s').2.2.2.2.2.2.2.2
 clear kk jj
 go_upto_region 13 with fail
 refine zcx [0,1] [2,3,4] 3 (fun w'=>∃s:ExtU w8,w'=s.W) hmix ⟨⟨w8.drew,(Below.refl _ _).drew⟩,rfl⟩ (by kernel_rfl) ?_;intro os hos;simp only[zu1,zu2,zu8,zu7] at hos;subst hos
 change wpQuiet _ _ _ _ [_,_] _
 repeat (go_big_quiet_step (fail))
 refine wpQuiet_nil ?_;rintro w' ⟨⟨Wb,hWb⟩,hw'⟩ r' hr';replace hw':w'=Wb:=hw';subst w';simp only[zu1,zu2,zu8,zu7,Option.map_some] at hr';subst hr';clear y0 z0 y1 z1 y2 z2 y3 z3 y4 z4 y5 z5 y6 z6 y7 z7 y8 z8;have b5b:Below w5.heap.size w5 Wb:=zaa b58 b58.size hWb;have b2b:Below w2.heap.size w2 Wb:=zaa b25 b25.size b5b;refine za2 rfl (fun K5 hK5=>?_);refine zdI 8 #[.tmp 54] #[27] (by rfl) #[.agg #[.slice ao rs.length rc,cv,.int .i64 d.width,bv,fv,tv,ev,nv,kv]] (by simp[Act.eval]) (fun v w'=>MatV Wb.heap.size rs d v w'/\Below Wb.heap.size Wb w') (zdl _ _) ((Hmc.out Wb b2b).mono fun e w' h=>MatV.of h (zvJ _)) ?_;rintro v9 W9 ⟨⟨ao9,rc9,cv9,bv9,fv9,tv9,ev9,nv9,kv9,rfl,hM9⟩,hb9⟩;refine hK5 _ _ (fun _=>⟨⟨W9,zaa hWb hWb.size hb9⟩,rfl⟩) ?_;clear hK5 K5;have b59:Below w5.heap.size w5 W9:=zaa b5b b5b.size hb9;have hM59:=HM5.out W9 b59;refine za2 rfl (fun K6 hK6=>?_);refine zdI 13 #[.tmp 53,.tmp 55] #[41,41] (by rfl) #[.agg #[.slice ao1 rs.length rc1,.slice ca d.classes.length cc,.int .i64 d.width,.slice ba d.base.length bc,.slice fa d.dflt.length fc,.slice ta d.tag.length tc,.slice ea d.fin.length ec,.slice na d.next.length nc,.slice ka d.chk.length kc],.agg #[.slice ao9 rs.length rc9,cv9,.int .i64 d.width,bv9,fv9,tv9,ev9,nv9,kv9]] (by simp[Act.eval,Act.put]) (fun v w'=>v=.bool true/\Below W9.heap.size W9 w') (zhJ _ _) ((zjW ao1 ao9 rc1 rc9 _ _ _ _ _ _ _ cv9 bv9 fv9 tv9 ev9 nv9 kv9 rs d W9 hM59.rul hM59.tab.tab hM9.rul hM9.tab.tab).mono (by
  rintro e w1 ⟨rfl,h1⟩;exact⟨_,rfl,rfl,h1⟩)) ?_
 rintro v10 W10 ⟨rfl,hb10⟩;refine hK6 _ _ (fun h=>by simp at h) ?_;clear hK6 K6;refine zb9 _ _ _ (by simp) (fun _ _ h=>h) ?_
 change wpList _ _ _ [_] _ _
 have b510:Below w5.heap.size w5 W10:=zaa b59 b59.size hb10;have b610:Below w6.heap.size w6 W10:=zaa (zaa b68 b68.size hWb) (zvK b68.size hWb.size) (zaa hb9 hb9.size hb10);clear hM59 hM9;obtain⟨q0,q1,q2,q3,q4,q5,q6,q7,q8⟩:=zbb (H5.out W10 b510).1;have b410:Below w4.heap.size w4 W10:=zaa hb5 hb5.size b510;have b310:Below w3.heap.size w3 W10:=zaa hb4 hb4.size b410;obtain⟨hw1,hw2⟩:=HW4.out W10 b410;have hmk:=zhS ao1 rc1 _ _ _ _ _ _ _ rs d w4.heap.size W10 hw1 hw2 b410.size hts hcr;clear hw1 hw2;go_wp2;rw[za5]
 go_wp2_with fail
 refine hmk.mono ?_;rintro e W11 ⟨r,rfl,hr0,ht11⟩;have b311:Below w3.heap.size w3 W11:=ht11.under b310 (fun k hk h=>by omega);have H11:Hid (∀W,Below W11.heap.size W11 W->W.heap[g9]?=some (.cells #[.int .i64 s1.L,.string s1.B,.bool s1.C,.int .i64 s1.S,.int .i64 s1.N] 32 (0,0))/\W.heap[g10]?=some (.cells #[.int .i64 x1.kind,.int .i64 x1.rule,.int .i64 x1.start,.int .i64 x1.fin,.slice so2 sm2 sc2] 35 (0,0))/\PvO w5.heap.size W (.slice so2 sm2 sc2) x1.spans):=by
  obtain⟨-,u9,-,u10,-,o10⟩:=H6.out W10 b610;have keep:∀k,w5.heap.size<=k->k<W10.heap.size->W11.heap[k]?=W10.heap[k]?:=fun k h1 h2=>ht11.same k h2 (fun h=>by have:=hb5.size;omega)
  have v9:=(keep g9 hg9 (zuH.1 u9).1).trans u9;have v10:=(keep g10 hg10 (zuH.1 u10).1).trans u10;have o11:PvO w5.heap.size W11 (.slice so2 sm2 sc2) x1.spans:=zav o10 (fun k e=>by
   obtain⟨z1,cur,z2⟩:=zaD o10 e;exact keep k z1 (zuH.1 z2).1)
  exact fun W hb=>⟨zag v9 hb,zag v10 hb,zac o11 hb⟩
 have hrd:decide (r<0)=false:=decide_eq_false (by omega);clear hmk q0 q1 q2 q3 q4 q5 q6 q7 q8;obtain⟨y0,y1,y2,y3,y4⟩:=zax (H3.out W11 b311).1;obtain⟨z0,z1,z2,z3,z4⟩:=zax (H11.out W11 (Below.refl _ _)).1
 go_wp2_with fail
 refine(zdV s1 _).mono ?_;rintro e W12 ⟨rfl,hb12⟩;clear y0 y1 y2 y3 y4 z0 z1 z2 z3 z4;have b312:Below w3.heap.size w3 W12:=zaa b311 b311.size hb12;obtain⟨y0,y1,y2,y3,y4⟩:=zax (H3.out W12 b312).2.1;obtain⟨z0,z1,z2,z3,z4⟩:=zax (H11.out W12 hb12).2.1
 go_wp2_with fail
 refine(zeI x1.kind x1.rule x1.start x1.fin _ _ x1.spans W12 ((H11.out W12 hb12).2.2.read (by omega)) ((H3.out W12 b312).2.2.read (by omega))).mono ?_;rintro e W13 ⟨rfl,hb13⟩;clear y0 y1 y2 y3 y4 z0 z1 z2 z3 z4;have b1113:Below W11.heap.size W11 W13:=zaa hb12 hb12.size hb13;have b313:Below w3.heap.size w3 W13:=zaa b312 b312.size hb13;obtain⟨z0,z1,z2,z3,z4⟩:=zax (H11.out W13 b1113).2.1
 go_wp2_with fail
 refine(zjc x1.kind x1.rule x1.start x1.fin so2 sm2 sc2 x1.spans W13 (H11.out W13 b1113).2.2 (by omega)).mono ?_;rintro e W14 ⟨rfl,o14,ht14⟩;have o13:=(H11.out W13 b1113).2.2;have hbk:∀k,(Value.slice so2 sm2 sc2).ownBlock=some k->w5.heap.size<=k:=fun k e=>(zaD o13 e).1
 have b35':=b35.size;have b314:Below w3.heap.size w3 W14:=ht14.under b313 (fun k hk h=>by have:=hbk k h;omega);have u14:W14.heap[g10]?=some (.cells #[.int .i64 x1.kind,.int .i64 x1.rule,.int .i64 x1.start,.int .i64 x1.fin,.slice so2 sm2 sc2] 35 (0,0)):=by
  have u13:=(H11.out W13 b1113).2.1;refine(ht14.same g10 (zuH.1 u13).1 fun h=>?_).trans u13;obtain⟨-,cur,z⟩:=zaD o13 h;rw[u13] at z;exact absurd (zad z) (by decide)
 obtain⟨kk,hkk⟩:∃kk:Int,1+2*(x1.spans.length:Int)=kk:=⟨_,rfl⟩;have hkd:decide (kk<0)=false:=decide_eq_false (by omega);have hhe:=zi3 x1.kind x1.rule x1.start x1.fin (.slice so2 sm2 sc2) x1.spans.length W14 (o14.read (by rw[zdH];omega)) (by omega);rw[hkk] at hhe;simp only[hkk];clear z0 z1 z2 z3 z4 o13 o14 hkk;obtain⟨z0,z1,z2,z3,z4⟩:=zax u14
 go_wp2_with fail
 refine hhe.mono ?_;rintro e W15 ⟨rfl,hb15⟩;have b315:Below w3.heap.size w3 W15:=zaa b314 b314.size hb15;have b215:Below w2.heap.size w2 W15:=zaa hb3 hb3.size b315;clear z0 z1 z2 z3 z4 hhe u14;have hkn:(kk != kk)=false:=by simp
 have HD15:Hid (∀W,Below W15.heap.size W15 W->W.heap[w.heap.size]?=some (.cells #[.slice ao rs.length rc,cv,.int .i64 d.width,bv,fv,tv,ev,nv,kv] 27 (0,0))/\W.heap[w.heap.size+1]?=some (.cells #[.int .i64 s.L,.string s.B,.bool s.C,.int .i64 s.S,.int .i64 s.N] 29 (0,0))):=fun W hb=>⟨(HD.out W (zaa b215 b215.size hb)).1,(HD.out W (zaa b215 b215.size hb)).2.1⟩
 go_upto_region 27 with fail
 refine zqW _ _ _ _ _ _ _ _ _ _ _ _ 87 88 89 90 91 86 92 93 14 15 (.agg #[.slice ao rs.length rc,cv,.int .i64 d.width,bv,fv,tv,ev,nv,kv]) (sesV s) (MatV W15.heap.size rs d) (NxR rs d s) 8 9 10 hmix (by kernel_rfl) (by decide) (by simp) rfl rfl rfl rfl rfl rfl rfl rfl rfl rfl rfl rfl (fun l h=>h ⟨0,.data⟩ (by simp) rfl) (fun l h=>h ⟨2,.data⟩ (by simp) rfl) (fun l h=>h ⟨1,.data⟩ (by simp) rfl) (fun l h=>h ⟨3,.data⟩ (by simp) rfl) (fun l h=>h ⟨4,.data⟩ (by simp) rfl) (fun l h=>h ⟨5,.data⟩ (by simp) rfl) (fun l h=>h ⟨5,.data⟩ (by simp) rfl) (fun l h=>h ⟨4,.phase⟩ (by simp) rfl) (fun l h=>h ⟨8,.data⟩ (by simp) rfl) (fun l h=>h ⟨6,.data⟩ (by simp) rfl) (fun l h=>h ⟨4,.phase⟩ (by simp) rfl) (fun l h=>h ⟨9,.data⟩ (by simp) rfl) (fun l h=>h ⟨7,.data⟩ (by simp) rfl)
  (fun a W ha hb=>zhq (.inl rfl) rfl ((ha.ev 2 (by decide)).trans rfl) (HD15.out W hb).1) (fun a W ha hb=>zhp rfl ((ha.ev 3 (by decide)).trans rfl) (HD15.out W hb).2)
  (fun a W h=>zea rfl rfl h W (zdl _ _)) (fun a W h=>zea rfl rfl h W (zdm _ _)) (fun a W m h1 h2=>zho rfl rfl h1 h2 W (zeZ _ _)) (fun a W v h=>zjs rfl h W) (fun a W u v h=>zeb rfl h W) (fun a W u v h=>zec rfl h W)
  (fun a W=>zfR rfl W) (fun a W=>zfQ rfl W) (fun a W g s' h1 h2 r=>zfT rfl h1 h2 r) (fun a W g x so sm sc h1 h2 r=>zfS rfl h1 h2 r)
  (fun W hb=>(Hmc.out W (zaa b215 b215.size hb)).mono fun e w' h=>MatV.of h hb.size) (fun W=>zei s W) (fun W m hb hm=>zpP hm hsm hts (HBr.out W (zaa b215 b215.size hb)) s) (fun m W W' h hb=>h.below hb) ?_
 rintro a W16 m3 s3 x3 so3 sm3 sc3 g14 g15 rfl hb16 hR3 hown3 hg14 hg15 hs14 ha15;obtain⟨rfl,rfl⟩:=zp0 hR hR3;simp only[List.foldl_cons,List.foldl_nil,Act.put,zvz,List.set_cons_zero,List.set_cons_succ,sesV,ansV];simp only[sesA,sesC,ansC] at hs14 ha15;have b316:Below w3.heap.size w3 W16:=zaa b315 b315.size hb16;obtain⟨y0,y1,y2,y3,y4⟩:=zax (H3.out W16 b316).1;obtain⟨z0,z1,z2,z3,z4⟩:=zax hs14
 go_wp2_with fail
 refine(zdV s1 _).mono ?_;rintro e W17 ⟨rfl,hb17⟩;clear y0 y1 y2 y3 y4 z0 z1 z2 z3 z4;have b317:Below w3.heap.size w3 W17:=zaa b316 b316.size hb17;obtain⟨y0,y1,y2,y3,y4⟩:=zax (H3.out W17 b317).2.1;obtain⟨z0,z1,z2,z3,z4⟩:=zax (zag ha15 hb17)
 go_wp2_with fail
 refine(zeI x1.kind x1.rule x1.start x1.fin _ _ x1.spans W17 ((show PvO _ _ _ _ from zac hown3 hb17).read (by omega)) ((H3.out W17 b317).2.2.read (by omega))).mono ?_;rintro e W18 ⟨rfl,hb18⟩;clear y0 y1 y2 y3 y4 z0 z1 z2 z3 z4;go_wp2;go_ret;exact⟨rfl,zaa bl3 bl3.size (zaa b317 b317.size hb18)⟩
end Go.Proofs.YtdimhpfiieepiaaGreatDoor
