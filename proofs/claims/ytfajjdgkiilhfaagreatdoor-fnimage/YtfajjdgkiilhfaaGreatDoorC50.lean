import Derived.Test.YtfajjdgkiilhfaaGreatDoorC49
import Derived.Defers
import Derived.Recover
namespace Go.Proofs.YtfajjdgkiilhfaaGreatDoor
open Proofs.Tryz
open Option renaming none->za,some->zd
open Value renaming slice->zb,int->zc,pointer->zi
open Obj renaming cells->ze
open Go renaming World->zf,Value->zj,Calls->zk
open RowKit renaming Below->zg,Hid->zh
set_option maxHeartbeats 2000000
set_option maxRecDepth 100000
open Go.RowKit
attribute [local go_sem ↓] wp_at_zero wp_at_succ
section
variable {W w:zf}{bt:Nat}
theorem zos(c:Int)(w:zf):Sem.run prog (Instr.typeAssert (.iface 69 (zc .i64 c)) 20 69 true) w=.ok (.tuple #[zc .i64 c,.bool true]) w:=by kernel_rfl
theorem zor(w:zf):Sem.run prog (Instr.typeAssert .nilIface 20 69 true) w=.ok (.tuple #[zc .i64 0,.bool false]) w:=by kernel_rfl
theorem zhk(w:zf)(bt bc:Nat)(c:Int)(_hne:bt≠bc)(ht:w.heap[bt]?=zd (ze cO 28 (0,0)))(hc:w.heap[bc]?=zd (ze #[zc .i64 0] 3 (0,0))):
  CallsD prog 35 #[zi (zd ⟨bt,0,za⟩),zi (zd ⟨bc,0,za⟩)] (.panicking (Da c)) w λe u' w'=>
   e=.returned (.tuple #[])/\u'=.panicking [{v:=.iface 69 (zc .i64 c),recovered:=true}]/\w'=(lR w bt (zb za 0 0) (zc .i64 0) (zb za 0 0) (zb za 0 0) (zb za 0 0) (zb za 0 0) (zb za 0 0) (zb za 0 0)).setCell ⟨bc,0,za⟩ (zc .i64 c):=by
 have ht':=ht;unfold cO at ht';obtain⟨y0,y1,y2,y3,y4,y5,y6,y7⟩:=kH ht';have fr:∀o,w.frozen? ⟨bt,o,za⟩=false:=λ_=>aM _ _ _ _ _ ht
 have z0:w.cell? ⟨bc,0,za⟩=zd (zc .i64 0):=cG hc 0;have fc:w.frozen? ⟨bc,0,za⟩=false:=aM _ _ _ _ _ hc;refine callsD_of_wpS func35 rfl λc₀ cs hu=>?_
 apply wpS_seq
 apply wpS_region
 simp[wpOpsS,go_sem,recoverD,hu,ntmps35,Exit.thenS,Da,zos];apply wpS_seq;apply wpS_region;simp[wpOpsS,go_sem,Exit.thenS];refine wpS_cond (t:=true) (by simp[Act.eval,Array.replicate]) ?_;simp only[if_true];apply wpS_region;simp[wpOpsS,go_sem,y0,y1,y2,y3,y4,y5,y6,y7,fr,z0,fc,bodyPostS,results,results35]
 rfl
theorem zox(w:zf)(bt bc:Nat):
  CallsD prog 35 #[zi (zd ⟨bt,0,za⟩),zi (zd ⟨bc,0,za⟩)] .returning w λe u' w'=>e=.returned (.tuple #[])/\u'=.returning/\w'=w:=by
 refine callsD_of_wpS func35 rfl λc₀ cs hu=>?_
 apply wpS_seq
 apply wpS_region
 simp[wpOpsS,go_sem,recoverD,hu,ntmps35,Exit.thenS,zor];apply wpS_seq;apply wpS_region;simp[wpOpsS,go_sem,Exit.thenS];refine wpS_cond (t:=false) (by simp[Act.eval,Array.replicate]) ?_;simp only[Bool.false_eq_true,if_false];refine wpS_of_wp (wp_skip ?_);cases c₀
 simp_all [bodyPostS,results,results35]
theorem zeZ(w:zf):zk prog 32 #[zc .i64 0,zc .i64 0] w λe w'=>e=.returned (zc .i64 268)/\w'=w:=by
 go_enter func32,ntmps32
 go_wp2;go_ret;exact⟨rfl,rfl⟩
theorem zrx(ht:W.heap[bt]?=zd (ze cO 28 (0,0))):(lR W bt (zb za 0 0) (zc .i64 0) (zb za 0 0) (zb za 0 0) (zb za 0 0) (zb za 0 0) (zb za 0 0) (zb za 0 0)).heap[bt]?=zd (ze cO 28 (0,0)):=by
 have h0:=cJ _ bt 0 _ _ (zb za 0 0) ht;have h1:=cJ _ bt 1 _ _ (zc .i64 0) h0;have h2:=cJ _ bt 2 _ _ (zb za 0 0) h1;have h3:=cJ _ bt 3 _ _ (zb za 0 0) h2;have h4:=cJ _ bt 4 _ _ (zb za 0 0) h3;have h5:=cJ _ bt 5 _ _ (zb za 0 0) h4;have h6:=cJ _ bt 6 _ _ (zb za 0 0) h5;have h7:=cJ _ bt 7 _ _ (zb za 0 0) h6;exact h7
theorem zjt{k:Nat}(h:k≠bt)(u0 u1 u2 u3 u4 u5 u6 u7:zj):(lR W bt u0 u1 u2 u3 u4 u5 u6 u7).heap[k]?=W.heap[k]?:=by
 unfold lR;rw[bh _ _ _ _ h,bh _ _ _ _ h,bh _ _ _ _ h,bh _ _ _ _ h,bh _ _ _ _ h,bh _ _ _ _ h,bh _ _ _ _ h,bh _ _ _ _ h]
theorem ztj(ht:W.heap[bt]?=zd (ze cO 28 (0,0)))(u0 u1 u2 u3 u4 u5 u6 u7:zj):(lR W bt u0 u1 u2 u3 u4 u5 u6 u7).heap[bt]?=zd (ze #[u0,u1,u2,u3,u4,u5,u6,u7] 28 (0,0)):=by
 have h0:=cJ _ bt 0 _ _ u0 ht;have h1:=cJ _ bt 1 _ _ u1 h0;have h2:=cJ _ bt 2 _ _ u2 h1;have h3:=cJ _ bt 3 _ _ u3 h2;have h4:=cJ _ bt 4 _ _ u4 h3;have h5:=cJ _ bt 5 _ _ u5 h4;have h6:=cJ _ bt 6 _ _ u6 h5;have h7:=cJ _ bt 7 _ _ u7 h6;have e:((((((((cO.setIfInBounds 0 u0).setIfInBounds 1 u1).setIfInBounds 2 u2).setIfInBounds 3 u3).setIfInBounds 4 u4).setIfInBounds 5 u5).setIfInBounds 6 u6).setIfInBounds 7 u7)=#[u0,u1,u2,u3,u4,u5,u6,u7]:=by apply Array.ext';simp[cO]
 rw[e]at h7;unfold lR;exact h7
theorem zqG{W':zf}{gt:Nat}{v:Nat->zj}{l:Nat->List Int}(hb:zg w.heap.size w W)(ht:W.heap[w.heap.size]?=zd (ze cO 28 (0,0)))(hc:W.heap[w.heap.size+1]?=zd (ze #[zc .i64 0] 3 (0,0)))(dN:w.heap.size+1<=gt)(au:aI gt 7 W v l)(u0 u1 u2 u3 u4 u5 u6 u7:zj)
  (hW:W'=(lR W w.heap.size u0 u1 u2 u3 u4 u5 u6 u7).setCell ⟨w.heap.size+1,0,za⟩ (zc .i64 0)):
  W'.heap[w.heap.size]?=zd (ze #[u0,u1,u2,u3,u4,u5,u6,u7] 28 (0,0))/\W'.heap[w.heap.size+1]?=zd (ze #[zc .i64 0] 3 (0,0))/\zg w.heap.size w W'/\aI gt 7 W' v l:=by
 subst hW;refine⟨?_,?_,?_,?_⟩
 ·rw[bh _ _ _ _ (by simp)];exact ztj ht _ _ _ _ _ _ _ _
 ·have h1:(lR W w.heap.size u0 u1 u2 u3 u4 u5 u6 u7).heap[w.heap.size+1]?=zd (ze #[zc .i64 0] 3 (0,0)):=(zjt (by omega) _ _ _ _ _ _ _ _).trans hc;have h2:=cJ _ (w.heap.size+1) 0 _ _ (zc .i64 0) h1;exact h2
 ·exact(A5 hb (aq _) _ _ _ _ _ _ _ _).setCell (by simp) _
 ·exact(aI.lR au (by omega) _ _ _ _ _ _ _ _).CI dN _ _
theorem zkE(hb:zg w.heap.size w W)(c:Int)(ht:W.heap[w.heap.size]?=zd (ze cO 28 (0,0)))(hc:W.heap[w.heap.size+1]?=zd (ze #[zc .i64 0] 3 (0,0))):
  CallsD prog 35 #[zi (zd ⟨w.heap.size,0,za⟩),zi (zd ⟨w.heap.size+1,0,za⟩)] (.panicking (Da c)) W λe u' w'=>
   e=.returned (.tuple #[])/\u'=.panicking [{v:=.iface 69 (zc .i64 c),recovered:=true}]/\(w'.heap[w.heap.size]?=zd (ze cO 28 (0,0))/\w'.heap[w.heap.size+1]?=zd (ze #[zc .i64 c] 3 (0,0))/\zg w.heap.size w w'):=by
 refine(zhk W w.heap.size (w.heap.size+1) c (by omega) ht hc).mono ?_;rintro e u' w' ⟨rfl,rfl,rfl⟩;refine⟨rfl,rfl,?_,?_,?_⟩
 ·rw[bh _ _ _ _ (by simp)];exact zrx ht
 ·have h1:(lR W w.heap.size (zb za 0 0) (zc .i64 0) (zb za 0 0) (zb za 0 0) (zb za 0 0) (zb za 0 0) (zb za 0 0) (zb za 0 0)).heap[w.heap.size+1]?=zd (ze #[zc .i64 0] 3 (0,0)):=(zjt (by omega) _ _ _ _ _ _ _ _).trans hc;have h2:=cJ _ (w.heap.size+1) 0 _ _ (zc .i64 c) h1;exact h2
 ·exact(A5 hb (aq _) _ _ _ _ _ _ _ _).setCell (by simp) _
theorem ziA(s:ByteArray)(w:zf)(h:(s.size:Int)<268):
  zk prog 9 #[.string s] w λe w'=>yi w 0 1 (λ_=>[]) e w':=by
 have hmf:∀(fn:Fn) (first cap:Array zj) (w:zf),(Instr.makeFunc fn first cap).run prog w=.ok (.func fn first cap) w:=λ_ _ _ _=>rfl
 have r0:((w.alloc (ze cO 28)).alloc (ze #[zc .i64 0] 3)).heap[w.heap.size]?=zd (ze cO 28 (0,0)):=qK (aJ _ _);have r1:((w.alloc (ze cO 28)).alloc (ze #[zc .i64 0] 3)).heap[w.heap.size+1]?=zd (ze #[zc .i64 0] 3 (0,0)):=by
  have:=aJ (w.alloc (ze cO 28)) (ze #[zc .i64 0] 3)
  simpa using this
 have hb:zg w.heap.size w ((w.alloc (ze cO 28)).alloc (ze #[zc .i64 0] 3)):=(ax).alloc (by simp) _
 go_enter_defers func9,ntmps9
 go_wp2_with fail
 refine(zeZ _).mono ?_;rintro e w1 ⟨rfl,rfl⟩
 go_wp2_with fail
 refine(Fi 1 _ _ (by first|rfl|(simp;omega))).mono ?_;rintro e w2 ⟨rfl,rfl⟩;refine leaves_cons (f:=35) (args:=#[zi (zd ⟨w.heap.size,0,za⟩),zi (zd ⟨w.heap.size+1,0,za⟩)]) (by simp) (by simp[go_sem]) ?_;refine(zkE hb 1 r0 r1).mono ?_;rintro e u' w'' ⟨rfl,rfl,t2,k2,b2⟩;clear r0 r1 hb;unfold cO at t2;obtain⟨y0,y1,y2,y3,y4,y5,y6,y7⟩:=kH t2;have z0:w''.cell? ⟨w.heap.size+1,0,za⟩=zd (zc .i64 1):=cG k2 0;simp[Leaves,settle,results,results9,go_sem,y0,y1,y2,y3,y4,y5,y6,y7,z0];exact⟨w.heap.size,λ_=>zb za 0 0,rfl,aq _,aI.nil _ _ _,b2⟩
theorem Rd.new(w:zf)(s:ByteArray):Rd (Array.replicate (grownCap w s.size 0 5-s.size) (.int .u8 0)) ((Go.Lib.bytesCells w 5 s).size,(Go.Lib.bytesCells w 5 s).size+1) (w.heap.size+1) w.heap.size (grownCap w s.size 0 5) s 0
  ((Go.Lib.bytesWorld w 5 s).alloc (ze #[zb (zd ⟨w.heap.size,0,za⟩) s.size (grownCap w s.size 0 5),zc .i64 0,.int .u16 0] 72)):=by
 have hsz:(Go.Lib.bytesWorld w 5 s).heap.size=w.heap.size+1:=Go.Lib.bytesWorld_size _ _ _;refine⟨by omega,?_,?_⟩
 ·have h:=aJ (Go.Lib.bytesWorld w 5 s) (ze #[zb (zd ⟨w.heap.size,0,za⟩) s.size (grownCap w s.size 0 5),zc .i64 0,.int .u16 0] 72);rw[hsz]at h;have e:s.data.toList.length=s.size:=by simp
  rw[e];exact h
 ·rw[Below.heap_alloc _ _ _ (by omega),Go.Lib.bytesWorld_at_new]
  congr 2
  unfold Go.Lib.bytesCells
  congr 1
  apply Array.ext'
  simp[Pj]
theorem zjQ(s:ByteArray)(w:zf)(hs:s.size<=1048576)(BZ:¬(s.size:Int)<268):
  zk prog 9 #[.string s] w λe w'=>yi w (wR s) (iU s) (qh s) e w':=by
 have hmf:∀(fn:Fn) (first cap:Array zj) (w:zf),(Instr.makeFunc fn first cap).run prog w=.ok (.func fn first cap) w:=λ_ _ _ _=>rfl
 have r0:((w.alloc (ze cO 28)).alloc (ze #[zc .i64 0] 3)).heap[w.heap.size]?=zd (ze cO 28 (0,0)):=qK (aJ _ _);have r1:((w.alloc (ze cO 28)).alloc (ze #[zc .i64 0] 3)).heap[w.heap.size+1]?=zd (ze #[zc .i64 0] 3 (0,0)):=by
  have:=aJ (w.alloc (ze cO 28)) (ze #[zc .i64 0] 3)
  simpa using this
 have hb:zg w.heap.size w ((w.alloc (ze cO 28)).alloc (ze #[zc .i64 0] 3)):=(ax).alloc (by simp) _;have hsz:((w.alloc (ze cO 28)).alloc (ze #[zc .i64 0] 3)).heap.size=w.heap.size+2:=by simp
 have HR:=Rd.new ((w.alloc (ze cO 28)).alloc (ze #[zc .i64 0] 3)) s;have fP:=zgE ((w.alloc (ze cO 28)).alloc (ze #[zc .i64 0] 3)) 5 s;have nG:(Go.Lib.bytesWorld ((w.alloc (ze cO 28)).alloc (ze #[zc .i64 0] 3)) 5 s).heap.size=w.heap.size+3:=by rw[Go.Lib.bytesWorld_size,hsz]
 rw[hsz]at HR;have t5:=aT r0 fP;have k5:=aT r1 fP;have b5:=aH hb hb.size fP;clear r0 r1 hb fP
 go_enter_defers func9,ntmps9
 go_wp2_with fail
 refine(zeZ _).mono ?_;rintro e w1 ⟨rfl,rfl⟩
 go_wp2_with fail
 refine(TI 1 _ _ (by first|rfl|(simp;omega))).mono ?_;rintro e w2 ⟨rfl,rfl⟩
 go_wp2_with fail
 rw[Go.Lib.run_convert_string_bytes _ _ _ _ _ underlying9 underlying22 underlying5];have HR':Rd (Array.replicate (grownCap ((w.alloc (ze #[zb za 0 0,zc .i64 0,zb za 0 0,zb za 0 0,zb za 0 0,zb za 0 0,zb za 0 0,zb za 0 0] 28)).alloc (ze #[zc .i64 0] 3)) s.size 0 5-s.size) (.int .u8 0)) ((Go.Lib.bytesCells ((w.alloc (ze #[zb za 0 0,zc .i64 0,zb za 0 0,zb za 0 0,zb za 0 0,zb za 0 0,zb za 0 0,zb za 0 0] 28)).alloc (ze #[zc .i64 0] 3)) 5 s).size,(Go.Lib.bytesCells ((w.alloc (ze #[zb za 0 0,zc .i64 0,zb za 0 0,zb za 0 0,zb za 0 0,zb za 0 0,zb za 0 0,zb za 0 0] 28)).alloc (ze #[zc .i64 0] 3)) 5 s).size+1) (w.heap.size+2+1) (w.heap.size+2) (grownCap ((w.alloc (ze #[zb za 0 0,zc .i64 0,zb za 0 0,zb za 0 0,zb za 0 0,zb za 0 0,zb za 0 0,zb za 0 0] 28)).alloc (ze #[zc .i64 0] 3)) s.size 0 5) s 0
   ((Go.Lib.bytesWorld ((w.alloc (ze #[zb za 0 0,zc .i64 0,zb za 0 0,zb za 0 0,zb za 0 0,zb za 0 0,zb za 0 0,zb za 0 0] 28)).alloc (ze #[zc .i64 0] 3)) 5 s).alloc (ze #[zb (zd ⟨w.heap.size+2,0,za⟩) s.size (grownCap ((w.alloc (ze #[zb za 0 0,zc .i64 0,zb za 0 0,zb za 0 0,zb za 0 0,zb za 0 0,zb za 0 0,zb za 0 0] 28)).alloc (ze #[zc .i64 0] 3)) s.size 0 5),zc .i64 0,.int .u16 0] 72)):=HR
 have t5':(Go.Lib.bytesWorld ((w.alloc (ze #[zb za 0 0,zc .i64 0,zb za 0 0,zb za 0 0,zb za 0 0,zb za 0 0,zb za 0 0,zb za 0 0] 28)).alloc (ze #[zc .i64 0] 3)) 5 s).heap[w.heap.size]?=zd (ze cO 28 (0,0)):=t5;have k5':(Go.Lib.bytesWorld ((w.alloc (ze #[zb za 0 0,zc .i64 0,zb za 0 0,zb za 0 0,zb za 0 0,zb za 0 0,zb za 0 0,zb za 0 0] 28)).alloc (ze #[zc .i64 0] 3)) 5 s).heap[w.heap.size+1]?=zd (ze #[zc .i64 0] 3 (0,0)):=k5;have VN:zg w.heap.size w (Go.Lib.bytesWorld ((w.alloc (ze #[zb za 0 0,zc .i64 0,zb za 0 0,zb za 0 0,zb za 0 0,zb za 0 0,zb za 0 0,zb za 0 0] 28)).alloc (ze #[zc .i64 0] 3)) 5 s):=b5;have Xv:(Go.Lib.bytesWorld ((w.alloc (ze #[zb za 0 0,zc .i64 0,zb za 0 0,zb za 0 0,zb za 0 0,zb za 0 0,zb za 0 0,zb za 0 0] 28)).alloc (ze #[zc .i64 0] 3)) 5 s).heap.size=w.heap.size+3:=nG;clear HR t5 k5 b5 nG hsz;generalize Go.Lib.bytesWorld ((w.alloc (ze #[zb za 0 0,zc .i64 0,zb za 0 0,zb za 0 0,zb za 0 0,zb za 0 0,zb za 0 0,zb za 0 0] 28)).alloc (ze #[zc .i64 0] 3)) 5 s=w5 at *;generalize (Go.Lib.bytesCells ((w.alloc (ze #[zb za 0 0,zc .i64 0,zb za 0 0,zb za 0 0,zb za 0 0,zb za 0 0,zb za 0 0,zb za 0 0] 28)).alloc (ze #[zc .i64 0] 3)) 5 s).size=mk at *;generalize grownCap ((w.alloc (ze #[zb za 0 0,zc .i64 0,zb za 0 0,zb za 0 0,zb za 0 0,zb za 0 0,zb za 0 0,zb za 0 0] 28)).alloc (ze #[zc .i64 0] 3)) s.size 0 5=cp at *;have t6:(w5.alloc (ze #[zb (zd ⟨w.heap.size+2,0,za⟩) s.size cp,zc .i64 0,.int .u16 0] 72)).heap[w.heap.size]?=zd (ze cO 28 (0,0)):=qK t5';have k6:(w5.alloc (ze #[zb (zd ⟨w.heap.size+2,0,za⟩) s.size cp,zc .i64 0,.int .u16 0] 72)).heap[w.heap.size+1]?=zd (ze #[zc .i64 0] 3 (0,0)):=qK k5';have b6:zg w.heap.size w (w5.alloc (ze #[zb (zd ⟨w.heap.size+2,0,za⟩) s.size cp,zc .i64 0,.int .u16 0] 72)):=VN.alloc VN.size _;have NP:(w5.alloc (ze #[zb (zd ⟨w.heap.size+2,0,za⟩) s.size cp,zc .i64 0,.int .u16 0] 72)).heap.size=w.heap.size+4:=by simp[Xv]
 have cT:=ztm (w.heap.size+2+1) (w.heap.size+2) cp s _ HR' hs (by omega);clear t5' k5' VN HR'
 go_wp2_with fail
 refine cT.mono ?_;rintro e w6 ⟨K6,h6⟩;clear cT;have t7:=K6.row t6 (show ¬_=_ by omega);have k7:=K6.row k6 (show ¬_=_ by omega);have b7:=b6.trans (K6.below b6.size (λ_ hk=>by rw[hk];omega));rcases h6 with ⟨MG,gt,v,rfl,dN,au⟩|⟨hC,rfl⟩
 ·have Pz:zh (iU s=0):=MG;rw[NP]at dN;clear MG t6 k6 b6 NP Xv K6;have o:∀i,i<7->∃ao cap,v i=.slice ao (qh s i).length cap:=λi hi=>by
   have h:=au.own i hi;rcases h.2 with ⟨h1,h2⟩|⟨g,cap,aZ,h1,_⟩
   ·refine⟨za,0,?_⟩;rw[h1,h2]
   ·exact⟨_,_,h1⟩
  obtain⟨b0,p0,e0⟩:=o 0 (by omega);obtain⟨b1,p1,e1⟩:=o 1 (by omega);obtain⟨b2,p2,e2⟩:=o 2 (by omega);obtain⟨b3,p3,e3⟩:=o 3 (by omega);obtain⟨b4,p4,e4⟩:=o 4 (by omega);obtain⟨b5,p5,e5⟩:=o 5 (by omega);obtain⟨b6,p6,e6⟩:=o 6 (by omega);clear o;have E:zh (fR (wR s) v=#[.slice b0 (qh s 0).length p0,zc .i64 (wR s),.slice b1 (qh s 1).length p1,.slice b2 (qh s 2).length p2,.slice b3 (qh s 3).length p3,.slice b4 (qh s 4).length p4,.slice b5 (qh s 5).length p5,.slice b6 (qh s 6).length p6]):=by show _=_;unfold fR;rw[e0,e1,e2,e3,e4,e5,e6]
  clear e0 e1 e2 e3 e4 e5 e6;rw[E.out];have fr:∀o,w6.frozen? ⟨w.heap.size,o,za⟩=false:=λ_=>aM _ _ _ _ _ t7
  have fk:w6.frozen? ⟨w.heap.size+1,0,za⟩=false:=aM _ _ _ _ _ k7;have Zb:=t7;unfold cO at Zb;obtain⟨y0,y1,y2,y3,y4,y5,y6,y7⟩:=kH Zb;clear Zb;have z0:w6.cell? ⟨w.heap.size+1,0,za⟩=zd (zc .i64 0):=cG k7 0;go_wp2;refine leaves_cons (f:=35) (args:=#[zi (zd ⟨w.heap.size,0,za⟩),zi (zd ⟨w.heap.size+1,0,za⟩)]) (by simp) (by simp[go_sem]) ?_;refine(zox _ _ _).mono ?_;rintro e u' w'' ⟨rfl,rfl,hw⟩;obtain⟨t9,k9,b9,f9⟩:=zqG b7 t7 k7 (by omega) au _ _ _ _ _ _ _ _ hw;clear hw t7 k7 b7 au y0 y1 y2 y3 y4 y5 y6 y7 z0 fr fk;obtain⟨y0,y1,y2,y3,y4,y5,y6,y7⟩:=kH t9;have z0:w''.cell? ⟨w.heap.size+1,0,za⟩=zd (zc .i64 0):=cG k9 0;simp[Leaves,settle,results,results9,go_sem,y0,y1,y2,y3,y4,y5,y6,y7,z0];rw[Pz.out];exact⟨gt,v,by rw[E.out],by omega,f9,b9⟩
 ·have HCn:zh (¬iU s=0):=hC;obtain⟨eW,eL⟩:=znV (s:=s) rfl hC;have HX:zh (wR s=0/\qh s=λ_=>[]):=⟨eW,eL⟩;clear hC t6 k6 b6 NP Xv K6 eW eL;refine leaves_cons (f:=35) (args:=#[zi (zd ⟨w.heap.size,0,za⟩),zi (zd ⟨w.heap.size+1,0,za⟩)]) (by simp) (by simp[go_sem]) ?_;refine(zkE b7 (iU s) t7 k7).mono ?_;rintro e u' w'' ⟨rfl,rfl,t2,k2,b2⟩;unfold cO at t2;obtain⟨y0,y1,y2,y3,y4,y5,y6,y7⟩:=kH t2;have z0:w''.cell? ⟨w.heap.size+1,0,za⟩=zd (zc .i64 (iU s)):=cG k2 0;simp[Leaves,settle,results,results9,go_sem,y0,y1,y2,y3,y4,y5,y6,y7,z0];rw[HX.out.1,HX.out.2];exact⟨w.heap.size,λ_=>zb za 0 0,rfl,aq _,aI.nil _ _ _,b2⟩
theorem zmV(s:ByteArray)(w:zf)(hs:s.size<=1048576):
  zk prog 9 #[.string s] w λe w'=>yi w (wR s) (iU s) (qh s) e w':=by
 by_cases h:(s.size:Int)<268
 ·have hC:iU s=1:=by unfold iU;rw[af h]
  obtain⟨e1,e2⟩:=znV hC (by decide);rw[e1,e2,hC];exact ziA s w h
 ·exact zjQ s w hs h
end
variable {p g N k lo:Nat}{bs:List UInt8}{w w' w0:zf}
theorem zsv(args:Array zj)(w:zf):(callFunc 49 args).run prog w=.ok (.enter 49 args) w:=by kernel_rfl
theorem Wr.lt(h:Wr p g N bs w):p<w.heap.size/\g<w.heap.size:=⟨ay h.2.aZ,ay h.2.row⟩
theorem Wr.below(h:Wr p g N bs w)(hb:zg w.heap.size w w'):Wr p g N bs w':=h.keep (S:=λ_=>False) (.k8 hb) (λk=>k) (λk=>k)
theorem Wr.SE(h:Wr p g N bs w)(hN:N<=1900000)(wx:zf)(hk:zg w.heap.size w wx)(ns:List Int)(t:TypeId)(hb:wx.heap[w.heap.size]?=zd (ze (ns.map λn=>zc .i64 n).toArray t (0,0)))
  (hr:∀n∈ns,-1<=n/\n<=65535) (hl:bs.length+2*ns.length<=N) (n cap:Nat) (hn:n=ns.length):
  zk prog 34 #[zi (zd ⟨p,0,za⟩),zb (zd ⟨w.heap.size,0,za⟩) n cap] wx λe w'=>e=.returned (.tuple #[])/\(Wr p g N (bs++wS ns) w'/\Kept (λb=>b=p\/b=g) w w'):=by
 subst hn;have hlt:=h.lt;have hs:dD w.heap.size wx (zb (zd ⟨w.heap.size,0,za⟩) ns.length cap) ns:=by
  refine⟨_,_,rfl,by omega,λ_=>⟨w.heap.size,0,rfl,aq _,ay hb,λi hi=>?_⟩⟩;rw[iH,iY _ _ _ _ _ _ hb];simp[List.getD,hi]
 refine(zph p g N bs _ ns wx (h.below hk) hN hs hlt.1 hlt.2 hr hl).mono ?_;rintro e w' ⟨rfl,W,K⟩;exact⟨rfl,W,(Kept.k8 hk).trans K⟩
theorem zpb(h:k<4):(([88,68,70,49]:List UInt8).take k)++[([88,68,70,49]:List UInt8).getD k 0]=([88,68,70,49]:List UInt8).take (k+1):=by
 match k,h with
 |0,_=>rfl
 |1,_=>rfl
 |2,_=>rfl
 |3,_=>rfl
theorem zsR(h:k<4)(hk:k<(⟨#[88,68,70,49]⟩:ByteArray).size):(((⟨#[88,68,70,49]⟩:ByteArray)[k]'hk).toNat:Int)=((([88,68,70,49]:List UInt8).getD k 0).toNat:Int):=by
 match k,h with
 |0,_=>rfl
 |1,_=>rfl
 |2,_=>rfl
 |3,_=>rfl
structure oo(w0:zf)(p g N:Nat)(bs:List UInt8)(w:zf):Prop where
 wr:Wr p g N bs w
 below:zg w0.heap.size w0 w
 hp:w0.heap.size<=p
 hg:w0.heap.size<=g
theorem oo.step{cs:List UInt8}(h:oo w0 p g N bs w)(hw:Wr p g N cs w')(hk:Kept (λb=>b=p\/b=g) w w'):oo w0 p g N cs w':=
 ⟨hw,h.below.trans (hk.below h.below.size (λ_ hk=>hk.elim (λe=>e ▸ h.hp) (λe=>e ▸ h.hg))),h.hp,h.hg⟩
theorem oo.grow(h:oo w0 p g N bs w)(hb:zg w.heap.size w w'):oo w0 p g N bs w':=
 ⟨h.wr.below hb,aH h.below h.below.size hb,h.hp,h.hg⟩
theorem zuj(p g N:Nat)(cv bv fv tv ev nv kv:zj)(d:cg)(w0 w:zf)(hs:qi lo w0 cv bv fv tv ev nv kv d)(hf:O3 d)(h:oo w0 p g N [] w)(hN:N<=1900000)(Q6:268<=N):
  zk prog 33 #[zi (zd ⟨p,0,za⟩),.agg #[cv,zc .i64 d.width,bv,fv,tv,ev,nv,kv]] w λe w'=>e=.returned (.tuple #[])/\oo w0 p g N (re d 256) w'/\Kept (λb=>b=p\/b=g) w w':=by
 have j7:=hf.n1;have kA:=hf.n2;have xU:=hf.w1;have kY:=hf.w2;have pi:=hf.nm;obtain⟨⟨a0,p0,rfl,m0,y0⟩,⟨a1,p1,rfl,m1,y1⟩,⟨a2,p2,rfl,m2,y2⟩,⟨a3,p3,rfl,m3,y3⟩,⟨a4,p4,rfl,m4,y4⟩,⟨a5,p5,rfl,m5,y5⟩,⟨a6,p6,rfl,m6,y6⟩⟩:=hs;clear y1 y2 y3 y4 y5 y6;have E0:=h.grow ((Below.refl _ _).alloc (aq _) (ze #[.slice a0 d.ai.length p0,zc .i64 d.width,.slice a1 d.base.length p1,.slice a2 d.bA.length p2,.slice a3 d.tag.length p3,.slice a4 d.fin.length p4,.slice a5 d.next.length p5,.slice a6 d.az.length p6] 28));have K0:Kept (λb=>b=p\/b=g) w (w.alloc (ze #[.slice a0 d.ai.length p0,zc .i64 d.width,.slice a1 d.base.length p1,.slice a2 d.bA.length p2,.slice a3 d.tag.length p3,.slice a4 d.fin.length p4,.slice a5 d.next.length p5,.slice a6 d.az.length p6] 28)):=(Kept.refl _ _).alloc _;have R0:=aJ w (ze #[.slice a0 d.ai.length p0,zc .i64 d.width,.slice a1 d.base.length p1,.slice a2 d.bA.length p2,.slice a3 d.tag.length p3,.slice a4 d.fin.length p4,.slice a5 d.next.length p5,.slice a6 d.az.length p6] 28);have hlt:=h.wr.lt;have NM:¬(w.heap.size=p\/w.heap.size=g):=by omega
 go_enter func33,ntmps33
 go_wp2
 go_loopw [7] (λi wr=>∃k:Nat,k<=4/\i=zc .i64 k/\oo w0 p g N (([88,68,70,49]:List UInt8).take k) wr/\Kept (λb=>b=p\/b=g) w wr/\wr.heap[w.heap.size]?=zd (ze #[.slice a0 d.ai.length p0,zc .i64 d.width,.slice a1 d.base.length p1,.slice a2 d.bA.length p2,.slice a3 d.tag.length p3,.slice a4 d.fin.length p4,.slice a5 d.next.length p5,.slice a6 d.az.length p6] 28 (0,0)))
  (λi _=>4-(intOf i).toNat)
 case atStart=>exact⟨0,by omega,rfl,E0,K0,R0⟩
 case round=>
  clear E0 K0 R0;obtain⟨k,hk,rfl,E,K,R⟩:=hrel
  by_cases GQ:k<4
  ·have hlen:(([88,68,70,49]:List UInt8).take k).length<N:=by simp;omega
   have HM:=zpb GQ;have step:∀(x:Int),x=((([88,68,70,49]:List UInt8).getD k 0).toNat:Int)->∀wx,(wx=wr\/wx=wr.drew)->zk prog 49 #[zi (zd ⟨p,0,za⟩),.int .u8 x] wx λe w'=>e=.returned (.tuple #[])/\(oo w0 p g N (([88,68,70,49]:List UInt8).take (k+1)) w'/\Kept (λb=>b=p\/b=g) w w'/\w'.heap[w.heap.size]?=zd (ze #[.slice a0 d.ai.length p0,zc .i64 d.width,.slice a1 d.base.length p1,.slice a2 d.bA.length p2,.slice a3 d.tag.length p3,.slice a4 d.fin.length p4,.slice a5 d.next.length p5,.slice a6 d.az.length p6] 28 (0,0))):=by
    intro x hx wx YN;have hb:zg wr.heap.size wr wx:=YN.elim (λe=>e ▸ Below.refl _ _) (λe=>e ▸ (Below.refl _ _).drew);refine((E.wr.below hb).put hN _ x hx hlen).mono ?_;rintro e w1 ⟨rfl,W1,K1⟩;rw[HM]at W1;exact⟨rfl,(E.grow hb).step W1 K1,(K.trans (.k8 hb)).trans K1,K1.row (aT R hb) NM⟩
   have eC:(0:Int)<=(k:Int):=by omega
   have dg:(k:Int)<4:=by omega
   go_wp2
   go_region_law ((refine zoj (by rfl) 49 (.tmp 12) (.tmp 14) #[64,5] (by rfl) (zi (zd ⟨p,0,za⟩)) (.int .u8 _) (by rfl) (by rfl) (.tuple #[]) _ (zsv _ _) (step _ (zsR GQ _) _ (by simp)) ?_;rintro w1 ⟨E1,K1,R1⟩))
   all_goals
    go_wp2
    go_roundw
    case rel=>exact⟨k+1,by omega,by go_num,E1,K1,R1⟩
    case measure=>simp[intOf];omega
  ·obtain⟨x0,x1,x2,x3,x4,x5,x6,x7⟩:=kH R;have jf:k=4:=by omega
   have hr:∀n∈[(d.base.length:Int),d.width,(d.next.length:Int)],-1<=n/\n<=65535:=by
    intro n hn;simp only[pD,yD,or_false]at hn;omega
   have hE:oo w0 p g N [88,68,70,49] wr:=by rw[jf]at E;exact E
   clear E jf;have HN:=λwx hk hb=>hE.wr.SE hN wx hk [(d.base.length:Int),d.width,(d.next.length:Int)] 3 hb hr (by simp;omega) 3 3 rfl
   go_wp2_with fail
   refine(HN _ (ax) (aJ _ _)).mono ?_;rintro e w2 ⟨rfl,W2,K2⟩;have E2:oo w0 p g N (re d 0) w2:=by
    have:=hE.step W2 K2;rw[zpQ];exact this
   have R2:=K2.row R NM;have K3:=K.trans K2;clear x0 x1 x2 x3 x4 x5 x6 x7 HN hE W2 K2 R K hr;obtain⟨x0,x1,x2,x3,x4,x5,x6,x7⟩:=kH R2;go_wp2;clear x0 x1 x2 x3 x4 x5 x6 x7 R2
   go_loopw [31] (λi wr=>∃k:Nat,k<=d.ai.length/\i=zc .i64 k/\oo w0 p g N (re d k) wr/\Kept (λb=>b=p\/b=g) w wr)
    (λi _=>d.ai.length-(intOf i).toNat)
   case atStart=>exact⟨0,by omega,rfl,E2,K3⟩
   case round=>
    clear E2 K3;obtain⟨k,hk,rfl,E,K⟩:=hrel
    by_cases zy9:k<d.ai.length
    ·obtain⟨b,o,x,rfl,Hn,zl,c0⟩:=y0.elem E.below zy9;have hx:=ju hf.cs zy9;rw[Hn.out]at hx;have J8:(re d k).length<N:=by rw[znz];have:=hf.cl;omega
     have HN:zh (re d (k+1)=re d k++[UInt8.ofNat x.toNat]):=by show _=_;rw[zpP];unfold rL;rw[Hn.out]
     have kC:x<=255:=by omega
     have lM:0<=x:=hx.1;clear hx Hn
     go_wp2_with fail
     refine(E.wr.put hN (UInt8.ofNat x.toNat) _ (by simp;omega) J8).mono ?_;rintro e w3 ⟨rfl,W3,K3⟩;rw[<-HN.out]at W3;go_wp2
     go_roundw
     case rel=>exact⟨k+1,by omega,by go_num,E.step W3 K3,K.trans K3⟩
     case measure=>simp[intOf];omega
    ·have lK:k=256:=by have:=hf.cl;omega
     rw[lK]at E;go_wp2
     go_end0
     exact⟨rfl,E,K⟩
theorem zk8(a b:Int)(w:zf)(ha:0<=a)(ha2:a<=70000)(hb:0<=b)(aB:b<=70000):
  zk prog 32 #[zc .i64 a,zc .i64 b] w λe w'=>e=.returned (zc .i64 (268+8*a+4*b))/\w'=w:=by
 go_enter func32,ntmps32
 go_wp2;go_ret;exact⟨rfl,rfl⟩
theorem zo9(N:Nat):(madeCells (Value.int .u8 0).cells (N*1)).toList=List.replicate N (.int .u8 0):=by
 apply FE
 ·simp[madeCells]
 ·intro i h1 h2;simp[madeCells,Value.cells,Nat.mod_one]
theorem Wr.new{w1 w2 W:zf}(own:w2.ownsRow w1.heap.size 5 1 (zb (zd ⟨w1.heap.size,0,za⟩) N N) N (madeCells (Value.int .u8 0).cells (N*1)).toList)
  (hW:W.heap[w1.heap.size]?=w2.heap[w1.heap.size]?) (hp:w1.heap.size≠p) (aZ:W.heap[p]?=zd (ze #[zb (zd ⟨w1.heap.size,0,za⟩) N N,zc .i64 0,.int .u16 0] 66 (0,0))):Wr p w1.heap.size N [] W:=by
 refine⟨by simp,hp,?_,?_⟩
 ·rw[zj8 (by simp)];exact aZ
 ·rw[hW];rcases own.2 with ⟨h,_⟩|⟨g,cap,cr,h,_,et,_,_,hsz,eV⟩
  ·cases h
  ·cases h
   rw[et]
   congr 2
   rw[Array.append_empty];apply Array.ext';rw[sX (by simp[hsz])]at eV;rw[eV,zo9];simp[zL,Pj]
theorem zle(cv bv fv tv ev nv kv:zj)(d:cg)(w:zf)(hs:qi lo w cv bv fv tv ev nv kv d)(hsm:C4 d)(hB:mZ d=true):
  zk prog 8 #[.agg #[cv,zc .i64 d.width,bv,fv,tv,ev,nv,kv]] w λe w'=>e=.returned (.string (D7 d))/\zg w.heap.size w w':=by
 obtain⟨i0,hi,da,dt,cR⟩:=info_parts Tryz.zCm;have hf:=OH hB;have HE:zh (D7 d=⟨(eN d).toArray⟩):=by show _=_;simp[D7,hB]
 have j7:=hf.n1;have kA:=hf.n2;have pi:=hf.nm;have hT:=λwx hb=>On cv bv fv tv ev nv kv d wx (hs.below hb) hsm
 rw[hB]at hT;obtain⟨⟨a0,p0,rfl,m0,y0⟩,⟨a1,p1,rfl,m1,y1⟩,⟨a2,p2,rfl,m2,y2⟩,⟨a3,p3,rfl,m3,y3⟩,⟨a4,p4,rfl,m4,y4⟩,⟨a5,p5,rfl,m5,y5⟩,⟨a6,p6,rfl,m6,y6⟩⟩:=id hs;have aD:zg w.heap.size w (w.alloc (ze #[.slice a0 d.ai.length p0,zc .i64 d.width,.slice a1 d.base.length p1,.slice a2 d.bA.length p2,.slice a3 d.tag.length p3,.slice a4 d.fin.length p4,.slice a5 d.next.length p5,.slice a6 d.az.length p6] 28)):=ax;have r0:=aJ w (ze #[.slice a0 d.ai.length p0,zc .i64 d.width,.slice a1 d.base.length p1,.slice a2 d.bA.length p2,.slice a3 d.tag.length p3,.slice a4 d.fin.length p4,.slice a5 d.next.length p5,.slice a6 d.az.length p6] 28)
 go_enter func8,ntmps8
 go_wp2_with fail
 refine(hT _ aD).mono ?_;rintro e w1 ⟨rfl,aO⟩;clear hT;have r1:=aT r0 aO;have aB:=aH aD aD.size aO;clear r0 aO aD;obtain⟨x0,x1,x2,x3,x4,x5,x6,x7⟩:=kH r1
 go_wp2_with fail
 refine(zk8 d.base.length d.next.length _ (by omega) (by omega) (by omega) (by omega)).mono ?_;rintro e w3 ⟨rfl,rfl⟩;have Sm:w.heap.size<w3.heap.size:=ay r1;clear x0 x1 x2 x3 x4 x5 x6 x7;obtain⟨x0,x1,x2,x3,x4,x5,x6,x7⟩:=kH r1
 go_wp2_with (refine wpList_make_full _ rfl _ _ 22 rfl w3.heap.size 5 i0 _ 1 underlying22 hi da dt _ _ _ _ (268+8*d.base.length+4*d.next.length) rfl rfl (by simp) (by simp) (by rw[cR];omega) (by unfold maxLen;omega) (aq _) ?_;intro w2 bL jn;have nF:zg w3.heap.size w3 w2:=(Below.refl _ _).grown jn (aq _) (by intro k h;cases h);have r2:=aT r1 nF;have gy:w.heap.size<w2.heap.size:=ay r2;clear x0 x1 x2 x3 x4 x5 x6 x7 jn;obtain⟨x0,x1,x2,x3,x4,x5,x6,x7⟩:=kH r2)
 have dE:w3.heap.size<w2.heap.size:=Aa bL;have E0:oo w w2.heap.size w3.heap.size (268+8*d.base.length+4*d.next.length) [] (w2.alloc (ze #[zb (zd ⟨w3.heap.size,0,za⟩) (268+8*d.base.length+4*d.next.length) (268+8*d.base.length+4*d.next.length),zc .i64 0,.int .u16 0] 66)):=
  ⟨Wr.new bL (Below.heap_alloc _ _ _ dE) (by omega) (aJ _ _),(aH aB aB.size nF).alloc (by omega) _,by omega,by omega⟩
 have R0:(w2.alloc (ze #[zb (zd ⟨w3.heap.size,0,za⟩) (268+8*d.base.length+4*d.next.length) (268+8*d.base.length+4*d.next.length),zc .i64 0,.int .u16 0] 66)).heap[w.heap.size]?=zd (ze #[.slice a0 d.ai.length p0,zc .i64 d.width,.slice a1 d.base.length p1,.slice a2 d.bA.length p2,.slice a3 d.tag.length p3,.slice a4 d.fin.length p4,.slice a5 d.next.length p5,.slice a6 d.az.length p6] 28 (0,0)):=qK r2;have hne:¬(w.heap.size=w2.heap.size\/w.heap.size=w3.heap.size):=by omega
 refine(zuj _ _ _ _ _ _ _ _ _ _ d w _ hs hf E0 (by omega) (by omega)).mono ?_;rintro e w4 ⟨rfl,E1,K1⟩;have R1:=K1.row R0 hne;clear x0 x1 x2 x3 x4 x5 x6 x7 E0 R0 K1 bL nF dE r2 r1 aB;have du:w.heap.size+1<=w2.heap.size:=by omega
 have iK:w.heap.size+1<=w3.heap.size:=by omega
 clear gy Sm;generalize Sg:w2.heap.size=p at *;generalize hgg:w3.heap.size=g at *;clear Sg hgg;generalize mF:268+8*d.base.length+4*d.next.length=N at *;have HN:zh (268+8*d.base.length+4*d.next.length=N):=mF;have Eh:N<=1900000:=by omega
 clear mF;obtain⟨x0,x1,x2,x3,x4,x5,x6,x7⟩:=kH R1;have E1':oo w p g N (uf d 0) w4:=by rw[Tb];exact E1
 clear E1;go_wp2;clear x0 x1 x2 x3 x4 x5 x6 x7
 go_loopw [24] (λi wr=>∃k:Nat,k<=d.base.length/\i=zc .i64 k/\oo w p g N (uf d k) wr/\wr.heap[w.heap.size]?=zd (ze #[.slice a0 d.ai.length p0,zc .i64 d.width,.slice a1 d.base.length p1,.slice a2 d.bA.length p2,.slice a3 d.tag.length p3,.slice a4 d.fin.length p4,.slice a5 d.next.length p5,.slice a6 d.az.length p6] 28 (0,0)))
  (λi _=>d.base.length-(intOf i).toNat)
 case atStart=>exact⟨0,by omega,rfl,E1',R1⟩
 case round=>
  clear E1' R1;obtain⟨k,hk,rfl,E,R⟩:=hrel;obtain⟨x0,x1,x2,x3,x4,x5,x6,x7⟩:=kH R
  by_cases hlt:k<d.base.length
  ·have q1:=hf.dl;have q2:=hf.tl;have q3:=hf.el;have j1:k<d.bA.length:=by omega
   have j2:k<d.tag.length:=by omega
   have j3:k<d.fin.length:=by omega
   have jz:(0:Int)<=(k:Int):=by omega
   have j0':(k:Int)<(d.base.length:Int):=by omega
   have j1':(k:Int)<(d.bA.length:Int):=by omega
   have j2':(k:Int)<(d.tag.length:Int):=by omega
   have j3':(k:Int)<(d.fin.length:Int):=by omega
   clear q1 q2 q3;have b1:=ju hf.bs hlt;have b2:=ju hf.ds j1;have b3:=ju hf.ts j2;have b4:=ju hf.es j3;have HS:zh _:=Ta d k;have hlen:(uf d k).length+8<=N:=by rw[Tm];have:=HN.out;omega
   obtain⟨b0,o0,v0,rfl,N0,g0,c0⟩:=y1.elem E.below hlt;obtain⟨f0,fo,v1,rfl,N1,g1,c1⟩:=y2.elem E.below j1;obtain⟨t0,tq,v2,rfl,N2,g2,c2⟩:=y3.elem E.below j2;obtain⟨e0,eo,v3,rfl,N3,g3,c3⟩:=y4.elem E.below j3;rw[N0.out]at b1;rw[N1.out]at b2;rw[N2.out]at b3;rw[N3.out]at b4;have hr:∀n∈[v0,v1,v2,v3],-1<=n/\n<=65535:=by
    intro n hn;simp only[pD,yD,or_false]at hn;omega
   have HC:=λwx hk hb=>E.wr.SE Eh wx hk [v0,v1,v2,v3] 3 hb hr (by simp;omega) 4 4 rfl
   clear b1 b2 b3 b4 hr;have Ut:zh (∀wx,Kept (λb=>b=p\/b=g) wr wx->zg (w.heap.size+1) wr wx):=λwx hk=>hk.below (ay R) (λ_ hk=>hk.elim (λe=>e ▸ du) (λe=>e ▸ iK))
   have HH:zh (∀wx,zg (w.heap.size+1) wr wx->wx.cell? ⟨w.heap.size,2,za⟩=zd (zb (zd ⟨b0,o0,za⟩) d.base.length p1)/\wx.cell? ⟨w.heap.size,3,za⟩=zd (zb (zd ⟨f0,fo,za⟩) d.bA.length p2)/\wx.cell? ⟨w.heap.size,4,za⟩=zd (zb (zd ⟨t0,tq,za⟩) d.tag.length p3)/\wx.cell? ⟨w.heap.size,5,za⟩=zd (zb (zd ⟨e0,eo,za⟩) d.fin.length p4)/\wx.cell? ⟨b0,o0+k,za⟩=zd (zc .i64 v0)/\wx.cell? ⟨f0,fo+k,za⟩=zd (zc .i64 v1)/\wx.cell? ⟨t0,tq+k,za⟩=zd (zc .i64 v2)/\wx.cell? ⟨e0,eo+k,za⟩=zd (zc .i64 v3)):=
    λwx hb=>⟨(hb.cell (by simp)).trans x2,(hb.cell (by simp)).trans x3,(hb.cell (by simp)).trans x4,(hb.cell (by simp)).trans x5,(hb.cell (by simp;omega)).trans c0,(hb.cell (by simp;omega)).trans c1,(hb.cell (by simp;omega)).trans c2,(hb.cell (by simp;omega)).trans c3⟩
   have NX:w.heap.size+1<=wr.heap.size:=ay R;go_wp2
   go_region_held3 (λwx=>wx.cell? ⟨w.heap.size,2,za⟩=zd (zb (zd ⟨b0,o0,za⟩) d.base.length p1)/\wx.cell? ⟨w.heap.size,3,za⟩=zd (zb (zd ⟨f0,fo,za⟩) d.bA.length p2)/\wx.cell? ⟨w.heap.size,4,za⟩=zd (zb (zd ⟨t0,tq,za⟩) d.tag.length p3)/\wx.cell? ⟨w.heap.size,5,za⟩=zd (zb (zd ⟨e0,eo,za⟩) d.fin.length p4)/\wx.cell? ⟨b0,o0+k,za⟩=zd (zc .i64 v0)/\wx.cell? ⟨f0,fo+k,za⟩=zd (zc .i64 v1)/\wx.cell? ⟨t0,tq+k,za⟩=zd (zc .i64 v2)/\wx.cell? ⟨e0,eo+k,za⟩=zd (zc .i64 v3)) ((first|exact HH.out _ (Below.refl _ _)|exact HH.out _ (Below.refl _ _).drew|exact HH.out _ ((Below.refl _ _).drew.alloc NX _)|exact HH.out _ (((Below.refl _ _).alloc NX _).drew)|exact HH.out _ cQ)) ((go_at_call 34;refine(HC _ (by first|exact((Below.refl _ _).drew.alloc (aq _) _)|exact(ax).drew) (by first|exact aJ _ _|exact sL (aJ _ _))).mono ?_;rintro e w5 ⟨rfl,W5,K5⟩;have cQ:=Ut.out _ K5))
   all_goals
    have R5:=K5.row R hne;have E5:oo w p g N (uf d (k+1)) w5:=by
     have:=E.step W5 K5;rw[HS.out];unfold qL Ac Pg Pd;rw[N0.out,N1.out,N2.out,N3.out]
     simpa [wS]using this
    go_wp2
    go_roundw
    case rel=>exact⟨k+1,by omega,by go_num,E5,R5⟩
    case measure=>simp[intOf];omega
  ·have cC:k=d.base.length:=by omega
   have E':oo w p g N (vf d 0) wr:=by rw[ZU,<-cC];exact E
   clear E cC;go_wp2;clear x0 x1 x2 x3 x4 x5 x6 x7
   go_loopw [53] (λi wr=>∃k:Nat,k<=d.next.length/\i=zc .i64 k/\oo w p g N (vf d k) wr/\wr.heap[w.heap.size]?=zd (ze #[.slice a0 d.ai.length p0,zc .i64 d.width,.slice a1 d.base.length p1,.slice a2 d.bA.length p2,.slice a3 d.tag.length p3,.slice a4 d.fin.length p4,.slice a5 d.next.length p5,.slice a6 d.az.length p6] 28 (0,0)))
    (λi _=>d.next.length-(intOf i).toNat)
   case atStart=>exact⟨0,by omega,rfl,E',R⟩
   case round=>
    clear E' R;obtain⟨k,hk,rfl,E,R⟩:=hrel;obtain⟨x0,x1,x2,x3,x4,x5,x6,x7⟩:=kH R
    by_cases hlt:k<d.next.length
    ·have q1:=hf.nk;have j1:k<d.az.length:=by omega
     have jz:(0:Int)<=(k:Int):=by omega
     have j0':(k:Int)<(d.next.length:Int):=by omega
     have j1':(k:Int)<(d.az.length:Int):=by omega
     clear q1;have b1:=ju hf.ns hlt;have b2:=ju hf.ks j1;have HS:zh _:=SY d k;have hlen:(vf d k).length+4<=N:=by rw[Ij];have:=HN.out;omega
     obtain⟨b0,o0,v0,rfl,N0,g0,c0⟩:=y5.elem E.below hlt;obtain⟨f0,fo,v1,rfl,N1,g1,c1⟩:=y6.elem E.below j1;rw[N0.out]at b1;rw[N1.out]at b2;have hr:∀n∈[v0,v1],-1<=n/\n<=65535:=by
      intro n hn;simp only[pD,yD,or_false]at hn;omega
     have HC:=λwx hk hb=>E.wr.SE Eh wx hk [v0,v1] 3 hb hr (by simp;omega) 2 2 rfl
     clear b1 b2 hr;have Ut:zh (∀wx,Kept (λb=>b=p\/b=g) wr wx->zg (w.heap.size+1) wr wx):=λwx hk=>hk.below (ay R) (λ_ hk=>hk.elim (λe=>e ▸ du) (λe=>e ▸ iK))
     have HH:zh (∀wx,zg (w.heap.size+1) wr wx->wx.cell? ⟨w.heap.size,6,za⟩=zd (zb (zd ⟨b0,o0,za⟩) d.next.length p5)/\wx.cell? ⟨w.heap.size,7,za⟩=zd (zb (zd ⟨f0,fo,za⟩) d.az.length p6)/\wx.cell? ⟨b0,o0+k,za⟩=zd (zc .i64 v0)/\wx.cell? ⟨f0,fo+k,za⟩=zd (zc .i64 v1)):=
      λwx hb=>⟨(hb.cell (by simp)).trans x6,(hb.cell (by simp)).trans x7,(hb.cell (by simp;omega)).trans c0,(hb.cell (by simp;omega)).trans c1⟩
     have NX:w.heap.size+1<=wr.heap.size:=ay R;go_wp2
     go_region_held3 (λwx=>wx.cell? ⟨w.heap.size,6,za⟩=zd (zb (zd ⟨b0,o0,za⟩) d.next.length p5)/\wx.cell? ⟨w.heap.size,7,za⟩=zd (zb (zd ⟨f0,fo,za⟩) d.az.length p6)/\wx.cell? ⟨b0,o0+k,za⟩=zd (zc .i64 v0)/\wx.cell? ⟨f0,fo+k,za⟩=zd (zc .i64 v1)) ((first|exact HH.out _ (Below.refl _ _)|exact HH.out _ (Below.refl _ _).drew|exact HH.out _ ((Below.refl _ _).drew.alloc NX _)|exact HH.out _ (((Below.refl _ _).alloc NX _).drew)|exact HH.out _ cQ)) ((go_at_call 34;refine(HC _ (by first|exact((Below.refl _ _).drew.alloc (aq _) _)|exact(ax).drew) (by first|exact aJ _ _|exact sL (aJ _ _))).mono ?_;rintro e w5 ⟨rfl,W5,K5⟩;have cQ:=Ut.out _ K5))
     all_goals
      have R5:=K5.row R hne;have E5:oo w p g N (vf d (k+1)) w5:=by
       have:=E.step W5 K5;rw[HS.out];unfold A8 Bk;rw[N0.out,N1.out]
       simpa [wS]using this
      go_wp2
      go_roundw
      case rel=>exact⟨k+1,by omega,by go_num,E5,R5⟩
      case measure=>simp[intOf];omega
    ·have cC:k=d.next.length:=by omega
     have E':oo w p g N (nS d) wr:=by unfold nS;rw[<-cC];exact E
     clear E cC x0 x1 x2 x3 x4 x5 x6 x7 R;have hlen:(nS d).length+2=N:=by unfold nS;rw[Ij];have:=HN.out;omega
     have uw:zh ((nS d).length+2=N):=hlen;have zD0:=znn (nS d);have hr:∀n∈[(nU (nS d):Int)],-1<=n/\n<=65535:=by
      intro n hn;simp only[pD,yD,or_false]at hn;omega
     have HC:=λwx hk hb=>E'.wr.SE Eh wx hk [(nU (nS d):Int)] 3 hb hr (by simp;omega) 1 1 rfl
     obtain⟨z0,z1,z2⟩:=KY E'.wr.2.aZ;clear hr hlen;have zB1:p<wr.heap.size:=E'.wr.lt.1;generalize DI:nU (nS d)=sm at *;have uu:zh (nU (nS d)=sm):=DI;clear DI
     go_wp2_with fail
     refine(HC _ (ax) (aJ _ _)).mono ?_;rintro e w5 ⟨rfl,W5,K5⟩;clear z0 z1 z2 HC zB1;have E5:=E'.step W5 K5;have hI:nS d++wS [(sm:Int)]=eN d:=by unfold eN;rw[uu.out];simp[wS]
     rw[hI]at E5;have MK:(eN d).length=N:=by rw[<-hI,aQ,zlC];have:=uw.out;simp;omega
     have C5:=E5.wr.2.aZ;have Se:zL N (eN d)=eN d:=zq5 MK;rw[Se,MK]at C5;obtain⟨z0,z1,z2⟩:=KY C5;have Es:∀j (hj:j<(eN d).length),w5.cell? ((⟨g,0,za⟩:Addr).add j)=zd (.int .u8 ((eN d)[j].toNat:Int)):=by
      intro j hj;have h1:=E5.wr.2.at (j:=j) (by rw[Se];exact hj);have h2:(⟨g,0,za⟩:Addr).add j=⟨g,j,za⟩:=by unfold Addr.add;split<;>simp_all
      rw[h2,h1,Se];simp[List.getD,hj]
     have hcv:=run_convert_bytes_back (P:=prog) w5 22 9 5 ⟨g,0,za⟩ N (eN d) underlying22 underlying5 underlying9 Es;rw[MK]at hcv;have zBi:=E5.below;clear Es Se hI W5 K5 E' E5 C5;have HIl:zh ((eN d).length=N):=MK;clear MK;go_wp2;go_ret;exact⟨zrg HE.out.symm,zBi⟩
theorem zjP(cv bv fv tv ev nv kv:zj)(d:cg)(w:zf)(hs:qi lo w cv bv fv tv ev nv kv d)(hsm:C4 d):
  zk prog 8 #[.agg #[cv,zc .i64 d.width,bv,fv,tv,ev,nv,kv]] w λe w'=>e=.returned (.string (D7 d))/\zg w.heap.size w w':=by
 cases hB:mZ d
 case true=>exact zle cv bv fv tv ev nv kv d w hs hsm hB
 have hT:=λwx hb=>On cv bv fv tv ev nv kv d wx (hs.below hb) hsm
 rw[hB]at hT;have HE:zh (D7 d=⟨#[]⟩):=by show _=_;simp[D7,hB]
 have aD:zg w.heap.size w (w.alloc (ze #[cv,zc .i64 d.width,bv,fv,tv,ev,nv,kv] 28)):=ax
 go_enter func8,ntmps8
 go_wp2_with fail
 refine(hT _ aD).mono ?_;rintro e w1 ⟨rfl,aO⟩;clear hT;go_wp2;go_ret;exact⟨zrg HE.out.symm,aH aD aD.size aO⟩
end Go.Proofs.YtfajjdgkiilhfaaGreatDoor
