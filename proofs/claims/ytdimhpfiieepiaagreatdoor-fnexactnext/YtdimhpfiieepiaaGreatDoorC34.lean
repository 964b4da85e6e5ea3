import Derived.Test.YtdimhpfiieepiaaGreatDoorC33
import Derived.Deep.RegionHeld3
namespace Go.Proofs.YtdimhpfiieepiaaGreatDoor
set_option maxHeartbeats 4000000
set_option maxRecDepth 100000
open Go.RowKit
section
attribute [local go_sem ↓] Go.wp_at_zero Go.wp_at_succ
theorem ztX(x:Value)(w:World):(Instr.typeAssert (.iface 297 x) 184 297 true).run Tryz.prog w=.ok (.tuple #[x,.bool true]) w:=by kernel_rfl
theorem zn9(x:Value)(w:World):(Instr.typeAssert (.iface 256 x) 184 297 true).run Tryz.prog w=.ok (.tuple #[.agg #[.pointer none],.bool false]) w:=by kernel_rfl
theorem ztW(x:Value)(w:World):(Instr.typeAssert (.iface 256 x) 184 256 true).run Tryz.prog w=.ok (.tuple #[x,.bool true]) w:=by kernel_rfl
theorem zn1(x:Value)(w:World):(Instr.typeAssert (.iface 258 x) 184 297 true).run Tryz.prog w=.ok (.tuple #[.agg #[.pointer none],.bool false]) w:=by kernel_rfl
theorem zn0(x:Value)(w:World):(Instr.typeAssert (.iface 258 x) 184 256 true).run Tryz.prog w=.ok (.tuple #[.agg #[.nilIface,.nilIface],.bool false]) w:=by kernel_rfl
theorem ztT(x:Value)(w:World):(Instr.typeAssert (.iface 258 x) 184 258 true).run Tryz.prog w=.ok (.tuple #[x,.bool true]) w:=by kernel_rfl
theorem zn8(x:Value)(w:World):(Instr.typeAssert (.iface 261 x) 184 297 true).run Tryz.prog w=.ok (.tuple #[.agg #[.pointer none],.bool false]) w:=by kernel_rfl
theorem zn7(x:Value)(w:World):(Instr.typeAssert (.iface 261 x) 184 256 true).run Tryz.prog w=.ok (.tuple #[.agg #[.nilIface,.nilIface],.bool false]) w:=by kernel_rfl
theorem zn6(x:Value)(w:World):(Instr.typeAssert (.iface 261 x) 184 258 true).run Tryz.prog w=.ok (.tuple #[.agg #[.nilIface,.nilIface],.bool false]) w:=by kernel_rfl
theorem ztV(x:Value)(w:World):(Instr.typeAssert (.iface 261 x) 184 261 true).run Tryz.prog w=.ok (.tuple #[x,.bool true]) w:=by kernel_rfl
theorem zn5(x:Value)(w:World):(Instr.typeAssert (.iface 264 x) 184 297 true).run Tryz.prog w=.ok (.tuple #[.agg #[.pointer none],.bool false]) w:=by kernel_rfl
theorem zn4(x:Value)(w:World):(Instr.typeAssert (.iface 264 x) 184 256 true).run Tryz.prog w=.ok (.tuple #[.agg #[.nilIface,.nilIface],.bool false]) w:=by kernel_rfl
theorem zn2(x:Value)(w:World):(Instr.typeAssert (.iface 264 x) 184 258 true).run Tryz.prog w=.ok (.tuple #[.agg #[.nilIface,.nilIface],.bool false]) w:=by kernel_rfl
theorem zn3(x:Value)(w:World):(Instr.typeAssert (.iface 264 x) 184 261 true).run Tryz.prog w=.ok (.tuple #[.agg #[.nilIface,.int .i64 0,.int .i64 0],.bool false]) w:=by kernel_rfl
theorem ztU(x:Value)(w:World):(Instr.typeAssert (.iface 264 x) 184 264 true).run Tryz.prog w=.ok (.tuple #[x,.bool true]) w:=by kernel_rfl
theorem zdM(w:World)(a b:Obj):((w.alloc a).alloc b).heap[w.heap.size+1]?=some b:=by
 have:=zvZ (w.alloc a) b
 simpa using this
theorem zq1(g:Nat->Bool):WrC (.set g):=by
 intro B n nw bt sv fv mk f fr F w v h hT hle hn;obtain⟨mg,rfl,hm⟩:=hT;have hpos:=zbK h.bru;have hbt:bt<w.heap.size:=(zuH.1 h.box).1;have hbb:=h.bb;have hn':n<64*nw:=by have:(wPt (.set g)).toNat=1:=rfl;omega
 obtain⟨W0,hW0⟩:∃W0,(w.alloc (.cells #[.bool false,.slice none 0 0,.slice none 0 0] 226)).alloc (.cells #[.pointer (some ⟨mg,0,none⟩)] 297)=W0:=⟨_,rfl⟩;have hb0:Below w.heap.size w W0:=by rw[<-hW0];exact((Below.refl _ _).alloc (zvJ _) _).alloc (by simp) _
 have x0:W0.heap[w.heap.size]?=some (.cells #[.bool false,.slice none 0 0,.slice none 0 0] 226 (0,0)):=by rw[<-hW0];exact zak (zvZ _ _)
 have x1:W0.heap[w.heap.size+1]?=some (.cells #[.pointer (some ⟨mg,0,none⟩)] 297 (0,0)):=by rw[<-hW0];exact zdM _ _ _
 have q0:W0.cell? ⟨w.heap.size+1,0,none⟩=some (.pointer (some ⟨mg,0,none⟩)):=(zvW _ _ _ _ _ _ x1:W0.cell? ⟨w.heap.size+1,0,none⟩=_);have hc:=zlZ B n nw bt mg sv fv mk f fr F g W0 (h.below hb0) ((hb0.block mg (zuH.1 hm).1).trans hm) hn';have a1:=ztX
 go_enter Tryz.func163,Tryz.ntmps163
 go_wp2_with fail
 refine hc.mono ?_;rintro e W ⟨n',ga,gl,b,sv',fv',mk',f',fr',F',A,L,rfl,hk,D⟩;have u0:=D.kp.typ _ _ _ x0 (by decide) (by decide) (by decide);obtain⟨k0,k1,k2,f0,f1,f2⟩:=zaf u0;clear hc hW0;go_wp2;refine zvV (v:=.agg #[.bool b,.slice (some ⟨ga,0,none⟩) nw nw,.slice (some ⟨gl,0,none⟩) nw nw]) (by simp[results,Tryz.results163,go_sem,k0,k1,k2]) rfl ((D.start hb0 (by omega)).ret u0 (zvJ _) hpos hk)
theorem zqY(p:Pt)(gi:Int)(ih:WrC p):WrC (.grp p gi):=by
 intro B n nw bt sv fv mk f fr F w v h hT hle hn;obtain⟨lv,rfl,hl⟩:=hT;have hpos:=zbK h.bru;have hbt:bt<w.heap.size:=(zuH.1 h.box).1;have hbb:=h.bb;have hle':wPt p<=2000:=hle;have hn':n+(wPt p).toNat<=64*nw:=hn;obtain⟨t,x,rfl⟩:=zaC hl;obtain⟨W0,hW0⟩:∃W0,(w.alloc (.cells #[.bool false,.slice none 0 0,.slice none 0 0] 226)).alloc (.cells #[.iface t x,.int .i64 gi] 264)=W0:=⟨_,rfl⟩;have hb0:Below w.heap.size w W0:=by rw[<-hW0];exact((Below.refl _ _).alloc (zvJ _) _).alloc (by simp) _
 have x0:W0.heap[w.heap.size]?=some (.cells #[.bool false,.slice none 0 0,.slice none 0 0] 226 (0,0)):=by rw[<-hW0];exact zak (zvZ _ _)
 have x1:W0.heap[w.heap.size+1]?=some (.cells #[.iface t x,.int .i64 gi] 264 (0,0)):=by rw[<-hW0];exact zdM _ _ _
 have q0:W0.cell? ⟨w.heap.size+1,0,none⟩=some (.iface t x):=(zvW _ _ _ _ _ _ x1:W0.cell? ⟨w.heap.size+1,0,none⟩=_);have hc:=ih B n nw bt sv fv mk f fr F W0 (.iface t x) (h.below hb0) (zan.keep (.of hb0) p _ hl) hle' hn';have a1:=zn5;have a2:=zn4;have a3:=zn2;have a4:=zn3;have a5:=ztU
 go_enter Tryz.func163,Tryz.ntmps163
 go_wp2_with fail
 refine hc.mono ?_;rintro e W ⟨n',ga,gl,b,sv',fv',mk',f',fr',F',A,L,rfl,hk,D⟩;have u0:=D.kp.typ _ _ _ x0 (by decide) (by decide) (by decide);obtain⟨k0,k1,k2,f0,f1,f2⟩:=zaf u0;clear hc hW0;go_wp2;refine zvV (v:=.agg #[.bool b,.slice (some ⟨ga,0,none⟩) nw nw,.slice (some ⟨gl,0,none⟩) nw nw]) (by simp[results,Tryz.results163,go_sem,k0,k1,k2]) rfl ((D.start hb0 (by omega)).ret u0 (zvJ _) hpos hk)
theorem zq0(p q:Pt)(ih1:WrC p)(ih2:WrC q):WrC (.seq p q):=by
 intro B n nw bt sv fv mk f fr F w v h hT hle hn;obtain⟨lv,rv,rfl,hl,hr⟩:=hT;have hpos:=zbK h.bru;have hbt:bt<w.heap.size:=(zuH.1 h.box).1;have hbb:=h.bb;have hp1:=(zbw p _ hl).1;have hq1:=(zbw q _ hr).1;have hpq:wPt (.seq p q)=wPt p+wPt q:=by
  have e:wPt (.seq p q)=capW (wPt p+wPt q):=rfl;rw[e] at hle ⊢;unfold capW at hle ⊢;split
  ·rfl
  ·rw[zv2 (by assumption)] at hle;omega
 have Hpq:Hid ((wPt (.seq p q)).toNat=(wPt p).toNat+(wPt q).toNat):=by show _=_;omega
 have hp2:wPt p<=2000:=by omega
 have hq2:wPt q<=2000:=by omega
 have hp3:n+(wPt p).toNat<=64*nw:=by omega
 have hq3:∀n',n'<=n+(wPt p).toNat->n'+(wPt q).toNat<=64*nw:=fun n' hk=>by omega
 clear hpq hle hn;obtain⟨t,x,rfl⟩:=zaC hl;obtain⟨t2,x2,rfl⟩:=zaC hr;obtain⟨W0,hW0⟩:∃W0,(w.alloc (.cells #[.bool false,.slice none 0 0,.slice none 0 0] 226)).alloc (.cells #[.iface t x,.iface t2 x2] 256)=W0:=⟨_,rfl⟩;have hb0:Below w.heap.size w W0:=by rw[<-hW0];exact((Below.refl _ _).alloc (zvJ _) _).alloc (by simp) _
 have x0:W0.heap[w.heap.size]?=some (.cells #[.bool false,.slice none 0 0,.slice none 0 0] 226 (0,0)):=by rw[<-hW0];exact zak (zvZ _ _)
 have x1:W0.heap[w.heap.size+1]?=some (.cells #[.iface t x,.iface t2 x2] 256 (0,0)):=by rw[<-hW0];exact zdM _ _ _
 have q0:W0.cell? ⟨w.heap.size+1,0,none⟩=some (.iface t x):=(zvW _ _ _ _ _ _ x1:W0.cell? ⟨w.heap.size+1,0,none⟩=_);have hc:=ih1 B n nw bt sv fv mk f fr F W0 (.iface t x) (h.below hb0) (zan.keep (.of hb0) p _ hl) hp2 hp3;have a1:=zn9;have a2:=ztW
 go_enter Tryz.func163,Tryz.ntmps163
 go_wp2_with fail
 refine hc.mono ?_;rintro e W2 ⟨n1,ga,gl,b,sv',fv',mk',f',fr',F',A,L,rfl,hk1,D1⟩;clear hc hW0 q0 a1 a2;have u0:=D1.kp.typ _ _ _ x0 (by decide) (by decide) (by decide);have u1:=D1.kp.typ _ _ _ x1 (by decide) (by decide) (by decide);obtain⟨W3,hW3⟩:∃W3,W2.alloc (.cells #[.bool b,.slice (some ⟨ga,0,none⟩) nw nw,.slice (some ⟨gl,0,none⟩) nw nw] 226)=W3:=⟨_,rfl⟩;have hb3:Below W2.heap.size W2 W3:=by rw[<-hW3];exact(Below.refl _ _).alloc (zvJ _) _
 have v0:W3.heap[w.heap.size]?=_:=(hb3.block _ (zuH.1 u0).1).trans u0;have v1:W3.heap[w.heap.size+1]?=_:=(hb3.block _ (zuH.1 u1).1).trans u1;have v2:W3.heap[W2.heap.size]?=some (.cells #[.bool b,.slice (some ⟨ga,0,none⟩) nw nw,.slice (some ⟨gl,0,none⟩) nw nw] 226 (0,0)):=by rw[<-hW3];exact zvZ _ _
 have c1:W3.cell? ⟨w.heap.size+1,1,none⟩=some (.iface t2 x2):=(zvW _ _ _ _ _ _ v1:W3.cell? ⟨w.heap.size+1,1,none⟩=_);obtain⟨d0,d1,d2,-,-,-⟩:=zaf v2;have hb3d:Below W2.heap.size W2 W3.drew:=hb3.drew;have hc2:=ih2 B n1 nw bt sv' fv' mk' f' fr' F' W3.drew (.iface t2 x2) (D1.tk.below hb3d) (zan.keep (.of hb3d) q _ (zan.keep D1.kp.keepM q _ (zan.keep (.of hb0) q _ hr))) hq2 (hq3 n1 hk1);have hw2:Calls Tryz.prog 163 #[.pointer (some ⟨bt,0,none⟩),.iface t2 x2] W3.drew fun e W=>∃v,e=.returned v/\∃(n2 ha hl:Nat) (c:Bool),v=.agg #[.bool c,.slice (some ⟨ha,0,none⟩) nw nw,.slice (some ⟨hl,0,none⟩) nw nw]/\Hid (n2<=n+(wPt (.seq p q)).toNat)/\(W.cell? ⟨W2.heap.size,0,none⟩=some (.bool b)/\W.cell? ⟨W2.heap.size,1,none⟩=some (.slice (some ⟨ga,0,none⟩) nw nw)/\W.cell? ⟨W2.heap.size,2,none⟩=some (.slice (some ⟨gl,0,none⟩) nw nw))/\Hid (W.heap[w.heap.size]?=some (.cells #[.bool false,.slice none 0 0,.slice none 0 0] 226 (0,0)))/\
   Calls Tryz.prog 187 #[.pointer (some ⟨bt,0,none⟩),.agg #[.bool b,.slice (some ⟨ga,0,none⟩) nw nw,.slice (some ⟨gl,0,none⟩) nw nw],.agg #[.bool c,.slice (some ⟨ha,0,none⟩) nw nw,.slice (some ⟨hl,0,none⟩) nw nw]] W fun e W5=>e=.returned (.agg #[.bool (b&&c),.slice (some ⟨ga,0,none⟩) nw nw,.slice (some ⟨hl,0,none⟩) nw nw])/\WrX B W0 n nw bt mk f fr F W5 n2 ga hl (b&&c) (unD (.seq p q) n)/\KU W W5:=by
  refine hc2.mono ?_;rintro e W ⟨n2,ha,hl,c,sv2,fv2,mk2,f2,fr2,F2,A',L',rfl,hk2,D2⟩;refine⟨_,rfl,n2,ha,hl,c,rfl,?_,?_,D2.kp.typ _ _ _ v0 (by decide) (by decide) (by decide),by obtain rfl:n1=n+cntP p:=D1.cnt (zde p n) (by omega);exact zqC (D1.pair hb3d D2)⟩
  ·show n2<=_;rw[Hpq.out];omega
  ·obtain⟨z0,z1,z2,-,-,-⟩:=zaf (D2.kp.typ _ _ _ v2 (by decide) (by decide) (by decide));exact⟨z0,z1,z2⟩
 clear hc2 v1 v2 v0 u0 u1 x1 hq3 ih1 ih2 D1 hb3 hb3d h;go_wp2;clear hW3
 go_region_law ((first|(refine zcQ (by rfl) 163 #[.tmp 29,.tmp 31] #[224,184] (by rfl) #[.pointer (some ⟨bt,0,none⟩),.iface t2 x2] (by simp[Act.eval]) _ (zdt _ _) hw2 ?_;rintro _ W4 ⟨n2,ha,hl,c,rfl,Hn2,⟨z0,z1,z2⟩,HX,hsq⟩)|(refine zef (by rfl) 187 #[.tmp 27,.tmp 28,.tmp 32] #[224,226,226] (by rfl) _ (by simp[Act.eval]) _ _ (zgp _ _) hsq ?_;rintro W5 ⟨D5,hKU⟩;have y0:=hKU _ _ _ HX.out (by decide);obtain⟨k0,k1,k2,f0,f1,f2⟩:=zaf y0)))
 all_goals
  obtain⟨sv5,fv5,mk5,f5,fr5,F5,A5,L5,D⟩:=D5;have hret:=(D.start hb0 (by omega)).ret y0 (zvJ _) hpos Hn2.out;clear hw2 hsq D y0 hKU HX z0 z1 z2 d0 d1 d2 c1;go_wp2;exact zvV (by simp[results,Tryz.results163,go_sem,k0,k1,k2]) rfl hret
theorem zqX(p q:Pt)(ih1:WrC p)(ih2:WrC q):WrC (.alt p q):=by
 intro B n nw bt sv fv mk f fr F w v h hT hle hn;obtain⟨lv,rv,rfl,hl,hr⟩:=hT;have hpos:=zbK h.bru;have hbt:bt<w.heap.size:=(zuH.1 h.box).1;have hbb:=h.bb;have hp1:=(zbw p _ hl).1;have hq1:=(zbw q _ hr).1;have hpq:wPt (.alt p q)=wPt p+wPt q:=by
  have e:wPt (.alt p q)=capW (wPt p+wPt q):=rfl;rw[e] at hle ⊢;unfold capW at hle ⊢;split
  ·rfl
  ·rw[zv2 (by assumption)] at hle;omega
 have Hpq:Hid ((wPt (.alt p q)).toNat=(wPt p).toNat+(wPt q).toNat):=by show _=_;omega
 have hp2:wPt p<=2000:=by omega
 have hq2:wPt q<=2000:=by omega
 have hp3:n+(wPt p).toNat<=64*nw:=by omega
 have hq3:∀n',n'<=n+(wPt p).toNat->n'+(wPt q).toNat<=64*nw:=fun n' hk=>by omega
 clear hpq hle hn;obtain⟨t,x,rfl⟩:=zaC hl;obtain⟨t2,x2,rfl⟩:=zaC hr;obtain⟨W0,hW0⟩:∃W0,(w.alloc (.cells #[.bool false,.slice none 0 0,.slice none 0 0] 226)).alloc (.cells #[.iface t x,.iface t2 x2] 258)=W0:=⟨_,rfl⟩;have hb0:Below w.heap.size w W0:=by rw[<-hW0];exact((Below.refl _ _).alloc (zvJ _) _).alloc (by simp) _
 have x0:W0.heap[w.heap.size]?=some (.cells #[.bool false,.slice none 0 0,.slice none 0 0] 226 (0,0)):=by rw[<-hW0];exact zak (zvZ _ _)
 have x1:W0.heap[w.heap.size+1]?=some (.cells #[.iface t x,.iface t2 x2] 258 (0,0)):=by rw[<-hW0];exact zdM _ _ _
 have q0:W0.cell? ⟨w.heap.size+1,0,none⟩=some (.iface t x):=(zvW _ _ _ _ _ _ x1:W0.cell? ⟨w.heap.size+1,0,none⟩=_);have hc:=ih1 B n nw bt sv fv mk f fr F W0 (.iface t x) (h.below hb0) (zan.keep (.of hb0) p _ hl) hp2 hp3;have a1:=zn1;have a2:=zn0;have a3:=ztT
 go_enter Tryz.func163,Tryz.ntmps163
 go_wp2_with fail
 refine hc.mono ?_;rintro e W2 ⟨n1,ga,gl,b,sv',fv',mk',f',fr',F',A,L,rfl,hk1,D1⟩;clear hc hW0 q0 a1 a2 a3;have u0:=D1.kp.typ _ _ _ x0 (by decide) (by decide) (by decide);have u1:=D1.kp.typ _ _ _ x1 (by decide) (by decide) (by decide);obtain⟨W3,hW3⟩:∃W3,W2.alloc (.cells #[.bool b,.slice (some ⟨ga,0,none⟩) nw nw,.slice (some ⟨gl,0,none⟩) nw nw] 226)=W3:=⟨_,rfl⟩;have hb3:Below W2.heap.size W2 W3:=by rw[<-hW3];exact(Below.refl _ _).alloc (zvJ _) _
 have v0:W3.heap[w.heap.size]?=_:=(hb3.block _ (zuH.1 u0).1).trans u0;have v1:W3.heap[w.heap.size+1]?=_:=(hb3.block _ (zuH.1 u1).1).trans u1;have v2:W3.heap[W2.heap.size]?=some (.cells #[.bool b,.slice (some ⟨ga,0,none⟩) nw nw,.slice (some ⟨gl,0,none⟩) nw nw] 226 (0,0)):=by rw[<-hW3];exact zvZ _ _
 have c1:W3.cell? ⟨w.heap.size+1,1,none⟩=some (.iface t2 x2):=(zvW _ _ _ _ _ _ v1:W3.cell? ⟨w.heap.size+1,1,none⟩=_);obtain⟨d0,d1,d2,-,-,-⟩:=zaf v2;have hb3d:Below W2.heap.size W2 W3.drew:=hb3.drew;have hc2:=ih2 B n1 nw bt sv' fv' mk' f' fr' F' W3.drew (.iface t2 x2) (D1.tk.below hb3d) (zan.keep (.of hb3d) q _ (zan.keep D1.kp.keepM q _ (zan.keep (.of hb0) q _ hr))) hq2 (hq3 n1 hk1);have hw2:Calls Tryz.prog 163 #[.pointer (some ⟨bt,0,none⟩),.iface t2 x2] W3.drew fun e W=>∃v,e=.returned v/\∃(n2 ha hl:Nat) (c:Bool),v=.agg #[.bool c,.slice (some ⟨ha,0,none⟩) nw nw,.slice (some ⟨hl,0,none⟩) nw nw]/\Hid (n2<=n+(wPt (.alt p q)).toNat)/\(W.cell? ⟨W2.heap.size,0,none⟩=some (.bool b)/\W.cell? ⟨W2.heap.size,1,none⟩=some (.slice (some ⟨ga,0,none⟩) nw nw)/\W.cell? ⟨W2.heap.size,2,none⟩=some (.slice (some ⟨gl,0,none⟩) nw nw))/\Hid (W.heap[w.heap.size]?=some (.cells #[.bool false,.slice none 0 0,.slice none 0 0] 226 (0,0)))/\
   Calls Tryz.prog 188 #[.pointer (some ⟨bt,0,none⟩),.agg #[.bool b,.slice (some ⟨ga,0,none⟩) nw nw,.slice (some ⟨gl,0,none⟩) nw nw],.agg #[.bool c,.slice (some ⟨ha,0,none⟩) nw nw,.slice (some ⟨hl,0,none⟩) nw nw]] W fun e W5=>e=.returned (.agg #[.bool (b || c),.slice (some ⟨ga,0,none⟩) nw nw,.slice (some ⟨gl,0,none⟩) nw nw])/\WrX B W0 n nw bt mk f fr F W5 n2 ga gl (b || c) (unD (.alt p q) n)/\KU W W5:=by
  refine hc2.mono ?_;rintro e W ⟨n2,ha,hl,c,sv2,fv2,mk2,f2,fr2,F2,A',L',rfl,hk2,D2⟩;refine⟨_,rfl,n2,ha,hl,c,rfl,?_,?_,D2.kp.typ _ _ _ v0 (by decide) (by decide) (by decide),by obtain rfl:n1=n+cntP p:=D1.cnt (zde p n) (by omega);exact zs0 (D1.pair hb3d D2)⟩
  ·show n2<=_;rw[Hpq.out];omega
  ·obtain⟨z0,z1,z2,-,-,-⟩:=zaf (D2.kp.typ _ _ _ v2 (by decide) (by decide) (by decide));exact⟨z0,z1,z2⟩
 clear hc2 v1 v2 v0 u0 u1 x1 hq3 ih1 ih2 D1 hb3 hb3d h;go_wp2;clear hW3
 go_region_law ((first|(refine zcQ (by rfl) 163 #[.tmp 43,.tmp 45] #[224,184] (by rfl) #[.pointer (some ⟨bt,0,none⟩),.iface t2 x2] (by simp[Act.eval]) _ (zdt _ _) hw2 ?_;rintro _ W4 ⟨n2,ha,hl,c,rfl,Hn2,⟨z0,z1,z2⟩,HX,hsq⟩)|(refine zef (by rfl) 188 #[.tmp 41,.tmp 42,.tmp 46] #[224,226,226] (by rfl) _ (by simp[Act.eval]) _ _ (zlj _ _) hsq ?_;rintro W5 ⟨D5,hKU⟩;have y0:=hKU _ _ _ HX.out (by decide);obtain⟨k0,k1,k2,f0,f1,f2⟩:=zaf y0)))
 all_goals
  obtain⟨sv5,fv5,mk5,f5,fr5,F5,A5,L5,D⟩:=D5;have hret:=(D.start hb0 (by omega)).ret y0 (zvJ _) hpos Hn2.out;clear hw2 hsq D y0 hKU HX z0 z1 z2 d0 d1 d2 c1;go_wp2;exact zvV (by simp[results,Tryz.results163,go_sem,k0,k1,k2]) rfl hret
end
section
variable{B n nw bt n' ga gl k:Nat}{w W:World}{mk fr:Nat -> Nat}{f:Nat -> Nat -> Bool}{F:Nat -> Nat -> Nat}{b:Bool}{M:PA}{v:Value}
attribute [local go_sem ↓] Go.wp_at_zero Go.wp_at_succ
def Cps(B:Nat)(w:World)(n nw bt:Nat)(mk:Nat->Nat)(f:Nat->Nat->Bool)(fr:Nat->Nat)(F:Nat->Nat->Nat)(r N:Nat)(M:PA)(W:World):Prop:=
 ∃(n' ga gl:Nat) (b:Bool),W.heap[r]?=some (.cells #[.bool b,.slice (some ⟨ga,0,none⟩) nw nw,.slice (some ⟨gl,0,none⟩) nw nw] 226 (0,0))/\n'<=n+N/\WrX B w n nw bt mk f fr F W n' ga gl b M
theorem WrX.putF{o:Nat}{cs:Array Value}
  (h:WrX B w n nw bt mk f fr F W n' ga gl b M) (hb:W.heap[k]?=some (.cells cs 226 (0,0))) (h0:w.heap.size<=k) (h1:0<w.heap.size):WrX B w n nw bt mk f fr F (W.setCell ⟨k,o,none⟩ v) n' ga gl b M:=by
 obtain⟨sv,fv,mk',f',fr',F',A,L,D⟩:=h;exact⟨sv,fv,mk',f',fr',F',A,L,D.putF hb h0 h1⟩
theorem WrX.opt
  (h:WrX B w n nw bt mk f fr F W n' ga gl b M):WrX B w n nw bt mk f fr F W n' ga gl true (PA.opt M):=by
 obtain⟨sv,fv,mk',f',fr',F',A,L,D⟩:=h;exact⟨sv,fv,mk',f',fr',F',A,L,D.opt⟩
theorem WrX.words{N:PA}
  (h:WrX B w n nw bt mk f fr F W n' ga gl b M) (hl:M=N):WrX B w n nw bt mk f fr F W n' ga gl b N:=by
 obtain⟨sv,fv,mk',f',fr',F',A,L,D⟩:=h;exact⟨sv,fv,mk',f',fr',F',A,L,D.words hl⟩
theorem WrX.cnt
  (h:WrX B w n nw bt mk f fr F W n' ga gl b M) (hM:∀q,M.D q↔n<=q/\q<k) (hk:n<=k):n'=k:=by
 obtain⟨sv,fv,mk',f',fr',F',A,L,D⟩:=h;exact D.cnt hM hk
theorem WrX.kp
  (h:WrX B w n nw bt mk f fr F W n' ga gl b M):Kp B w W:=by
 obtain⟨sv,fv,mk',f',fr',F',A,L,D⟩:=h;exact D.kp
theorem WrX.put3{x y z:Value}
  (h:WrX B w n nw bt mk f fr F W n' ga gl b M) (hb:W.heap[k]?=some (.cells #[x,y,z] 226 (0,0))) (h0:w.heap.size<=k) (h1:0<w.heap.size) (v0 v1 v2:Value):
  WrX B w n nw bt mk f fr F (((W.setCell ⟨k,0,none⟩ v0).setCell ⟨k,1,none⟩ v1).setCell ⟨k,2,none⟩ v2) n' ga gl b M/\(((W.setCell ⟨k,0,none⟩ v0).setCell ⟨k,1,none⟩ v1).setCell ⟨k,2,none⟩ v2).heap[k]?=some (.cells #[v0,v1,v2] 226 (0,0)):=by
 have r1:=zv1 _ _ 0 _ _ v0 hb;have r2:=zv1 _ _ 1 _ _ v1 r1;have r3:=zv1 _ _ 2 _ _ v2 r2;exact⟨((h.putF hb h0 h1).putF r1 h0 h1).putF r2 h0 h1,r3⟩
def ztR(B:Nat)(w:World)(n nw bt:Nat)(mk:Nat->Nat)(f:Nat->Nat->Bool)(fr:Nat->Nat)(F:Nat->Nat->Nat)(r N ga gl:Nat)(b:Bool)(p:Pt)(s:Nat)(M:PA)(v:Value)(W:World):Prop:=
 ∃(n2 ha hl:Nat) (c:Bool),v=.agg #[.bool c,.slice (some ⟨ha,0,none⟩) nw nw,.slice (some ⟨hl,0,none⟩) nw nw]/\Hid (n2<=n+(N+(wPt p).toNat))/\(W.cell? ⟨r,0,none⟩=some (.bool b)/\W.cell? ⟨r,1,none⟩=some (.slice (some ⟨ga,0,none⟩) nw nw)/\W.cell? ⟨r,2,none⟩=some (.slice (some ⟨gl,0,none⟩) nw nw))/\Hid (W.heap[r]?=some (.cells #[.bool b,.slice (some ⟨ga,0,none⟩) nw nw,.slice (some ⟨gl,0,none⟩) nw nw] 226 (0,0)))/\
  Calls Tryz.prog 187 #[.pointer (some ⟨bt,0,none⟩),.agg #[.bool c,.slice (some ⟨ha,0,none⟩) nw nw,.slice (some ⟨hl,0,none⟩) nw nw],.agg #[.bool b,.slice (some ⟨ga,0,none⟩) nw nw,.slice (some ⟨gl,0,none⟩) nw nw]] W fun e W5=>e=.returned (.agg #[.bool (c&&b),.slice (some ⟨ha,0,none⟩) nw nw,.slice (some ⟨gl,0,none⟩) nw nw])/\WrX B w n nw bt mk f fr F W5 n2 ha gl (c&&b) (PA.seq (unD p s) M)/\KU W W5
theorem ziU{r N:Nat}{p:Pt}(ih:WrC p)(hT:zan w v p)(hle:wPt p<=2000)
  (hX:WrX B w n nw bt mk f fr F W n' ga gl b M) (hr:W.heap[r]?=some (.cells #[.bool b,.slice (some ⟨ga,0,none⟩) nw nw,.slice (some ⟨gl,0,none⟩) nw nw] 226 (0,0))) (hn:n'<=n+N) (hN:n+(N+(wPt p).toNat)<=64*nw) {s:Nat} (hs:n'=s):
  Calls Tryz.prog 163 #[.pointer (some ⟨bt,0,none⟩),v] W.drew fun e W4=>∃v,e=.returned v/\ztR B w n nw bt mk f fr F r N ga gl b p s M v W4:=by
 subst hs;obtain⟨sv,fv,mk',f',fr',F',A,L,D⟩:=hX;have hb:Below W.heap.size W W.drew:=(Below.refl _ _).drew;refine(ih B n' nw bt sv fv mk' f' fr' F' W.drew v (D.tk.below hb) (zan.keep (.of hb) p _ (zan.keep D.kp.keepM p _ hT)) hle (by omega)).mono ?_;rintro e W4 ⟨n2,ha,hl,c,sv2,fv2,mk2,f2,fr2,F2,A',L',rfl,hk2,D2⟩;have hr4:=D2.kp.typ r _ _ hr (by decide) (by decide) (by decide);obtain⟨z0,z1,z2,-,-,-⟩:=zaf hr4;exact⟨_,rfl,n2,ha,hl,c,rfl,by show n2<=_;omega,⟨z0,z1,z2⟩,hr4,zqC (D.pair hb D2).swap⟩
end
section
attribute [local go_sem ↓] Go.wp_at_zero Go.wp_at_succ
theorem zli(p:Pt)(ih:WrC p)(m d e:Nat)(hme:e=m+d)(he:e<=255)(B n nw bt:Nat)(sv fv:Value)(mk:Nat->Nat)(f:Nat->Nat->Bool)(fr:Nat->Nat)(F:Nat->Nat->Nat)(w:World)(t:TypeId)(x:Value)(h:Trk B w n nw bt sv fv mk f fr F)(hT:zan w (.iface t x) p)(hle:wPt p<=2000)(hn:n+e*(wPt p).toNat<=64*nw):
  Calls Tryz.prog 189 #[.pointer (some ⟨bt,0,none⟩),.agg #[.iface t x,.int .i64 m,.int .i64 e]] w fun r W=>WrR B w n nw bt mk f fr F (e*(wPt p).toNat) (unD (.rep p m e) n) r W:=by
 have hpos:=zbK h.bru;have hbt:bt<w.heap.size:=(zuH.1 h.box).1;have hbb:=h.bb;have hnw:=h.nwl;obtain⟨W0,hW0⟩:∃W0,(w.alloc (.cells #[.iface t x,.int .i64 m,.int .i64 e] 261)).alloc (.cells #[.bool false,.slice none 0 0,.slice none 0 0] 226)=W0:=⟨_,rfl⟩;have hb0:Below w.heap.size w W0:=by rw[<-hW0];exact((Below.refl _ _).alloc (zvJ _) _).alloc (by simp) _
 have x0:W0.heap[w.heap.size]?=some (.cells #[.iface t x,.int .i64 m,.int .i64 e] 261 (0,0)):=by rw[<-hW0];exact zak (zvZ _ _)
 have x1:W0.heap[w.heap.size+1]?=some (.cells #[.bool false,.slice none 0 0,.slice none 0 0] 226 (0,0)):=by rw[<-hW0];exact zdM _ _ _
 have hs0:=hb0.size;have h0:=h.below hb0;have hT0:=zan.keep (.of hb0) p _ hT;have hba:=zk9 nw bt true sv fv W0 h0.box hnw;have hne:((e:Int) == -1)=false:=by simp
 have hsub:(e:Int)-(m:Int)=(d:Int):=by omega
 have Hmul:Hid (∀a b:Nat,a+b<=e->a*(wPt p).toNat+b*(wPt p).toNat<=e*(wPt p).toNat):=fun a b hab=>by rw[<-Nat.add_mul];exact Nat.mul_le_mul_right _ hab
 have Hme:Hid (e=m+d):=hme;have hd255:d<=255:=by omega
 have hm255:m<=255:=by omega
 clear hme
 go_enter Tryz.func189,Tryz.ntmps189
 go_wp2_with fail
 refine hba.mono ?_;rintro e1 W1 ⟨ga,gl,rfl,na,nl,hfr,hb1⟩;clear hba hW0;obtain⟨W2,hW2⟩:∃W2,W1.alloc (.cells #[.bool true,.slice (some ⟨ga,0,none⟩) nw nw,.slice (some ⟨gl,0,none⟩) nw nw] 226)=W2:=⟨_,rfl⟩;have hb2:Below W1.heap.size W1 W2:=by rw[<-hW2];exact(Below.refl _ _).alloc (zvJ _) _
 have r2:W2.heap[W1.heap.size]?=some (.cells #[.bool true,.slice (some ⟨ga,0,none⟩) nw nw,.slice (some ⟨gl,0,none⟩) nw nw] 226 (0,0)):=by rw[<-hW2];exact zvZ _ _
 have D0:=((WrD.bare h0 true na nl hfr hb1).below hb2).words (N:=upD (unD p) (cntP p) n 0) rfl;have hX:Cps B W0 n nw bt mk f fr F W1.heap.size (0*(wPt p).toNat) (upD (unD p) (cntP p) n 0) W2:=⟨n,ga,gl,true,r2,by omega,_,_,_,_,_,_,_,_,D0⟩;have hs1:=hb1.size;have y0:=D0.kp.typ _ _ _ x0 (by decide) (by decide) (by decide);obtain⟨c0,c1,c2,-,-,-⟩:=zaf y0;clear D0 r2 hfr y0 hb1 hb2 na nl h h0 hT;have Hn:Hid (n+e*(wPt p).toNat<=64*nw):=hn;have hrW:W0.heap.size<=W1.heap.size:=hs1;have hp0:0<W0.heap.size:=by omega
 clear hn hs1;go_wp2;clear hW2 c0 c1 c2
 go_loopw [27] (fun i wr=>∃j:Nat,j<=d/\i=.int .i64 j/\Cps B W0 n nw bt mk f fr F W1.heap.size (j*(wPt p).toNat) (upD (unD p) (cntP p) n j) wr)
  (fun i _=>d-(intOf i).toNat)
 case atStart=>exact⟨0,zvT _,rfl,hX⟩
 case round=>
  obtain⟨j,hj,rfl,n',ga',gl',b,hr,hn',hX'⟩:=hrel
  by_cases hlt:j<d
  ·have Hj:=Hmul.out j 1 (by have:=Hme.out;omega);have hw:=ziU ih hT0 hle hX' hr hn' (by have:=Hn.out;omega) (hX'.cnt (zoD (zde p) n j) (by omega));have yk:=hX'.kp.typ _ _ _ x0 (by decide) (by decide) (by decide);have c0:wr.cell? ⟨w.heap.size,0,none⟩=some (.iface t x):=(zaf yk).1;obtain⟨d0,d1,d2,-,-,-⟩:=zaf hr;have hi0:(0:Int)<=(j:Int):=by omega
   have hi1:(j:Int)<(d:Int):=by omega
   have Hj2:Hid (j*(wPt p).toNat+(wPt p).toNat=(j+1)*(wPt p).toNat):=by show _=_;rw[Nat.add_mul,Nat.one_mul]
   clear Hj hX hX' yk hr hn';go_wp2
   go_region_law ((first|(refine zcQ (by rfl) 163 #[.tmp 30,.tmp 32] #[224,184] (by rfl) #[.pointer (some ⟨bt,0,none⟩),.iface t x] (by simp[Act.eval]) _ (zdt _ _) hw ?_;rintro _ W4 ⟨n2,ha,hl,c,rfl,Hn2,⟨z0,z1,z2⟩,HX,hsq⟩)|(refine zef (by rfl) 187 #[.tmp 29,.tmp 33,.tmp 34] #[224,226,226] (by rfl) _ (by simp[Act.eval]) _ _ (zgp _ _) hsq ?_;rintro W5 ⟨D5,hKU⟩;have y0:=hKU _ _ _ HX.out (by decide);obtain⟨k0,k1,k2,f0,f1,f2⟩:=zaf y0)))
   all_goals
    obtain⟨q5,q6⟩:=D5.put3 y0 hrW hp0 (.bool (c&&b)) (.slice (some ⟨ha,0,none⟩) nw nw) (.slice (some ⟨gl',0,none⟩) nw nw);clear hw hsq y0 hKU HX z0 z1 z2 d0 d1 d2 c0 D5 k0 k1 k2 f0 f1 f2;generalize ((W5.setCell ⟨W1.heap.size,0,none⟩ (.bool (c&&b))).setCell ⟨W1.heap.size,1,none⟩ (.slice (some ⟨ha,0,none⟩) nw nw)).setCell ⟨W1.heap.size,2,none⟩ (.slice (some ⟨gl',0,none⟩) nw nw)=W6 at *;obtain⟨k0,-,-,f0,-,-⟩:=zaf q6;go_wp2
    go_roundw
    case rel=>exact⟨j+1,by omega,by go_num,n2,ha,gl',true,zv1 _ _ 0 _ _ _ q6,by have:=Hn2.out;have:=Hj2.out;omega,((q5.putF q6 hrW hp0).opt).words rfl⟩
    case measure=>simp[intOf];omega
  ·have hjd:j=d:=by omega
   subst hjd;have yk:=hX'.kp.typ _ _ _ x0 (by decide) (by decide) (by decide);have c1:wr.cell? ⟨w.heap.size,1,none⟩=some (.int .i64 m):=(zaf yk).2.1;have hX2:Cps B W0 n nw bt mk f fr F W1.heap.size (j*(wPt p).toNat) (ahD (unD p) (cntP p) (upD (unD p) (cntP p) n j) (n+j*cntP p) 0) wr:=⟨n',ga',gl',b,hr,hn',hX'.words rfl⟩;clear hX' hr hn' yk hX;go_wp2;clear c1
   go_loopw [40] (fun i wr=>∃k:Nat,k<=m/\i=.int .i64 k/\Cps B W0 n nw bt mk f fr F W1.heap.size ((j+k)*(wPt p).toNat) (ahD (unD p) (cntP p) (upD (unD p) (cntP p) n j) (n+j*cntP p) k) wr)
    (fun i _=>m-(intOf i).toNat)
   case atStart=>exact⟨0,zvT _,rfl,hX2⟩
   case round=>
    clear hX2;obtain⟨k,hk,rfl,n',ga',gl',b,hr,hn',hX'⟩:=hrel
    by_cases hlt:k<m
    ·have Hj:=Hmul.out (j+k) 1 (by have:=Hme.out;omega);have hw:=ziU ih hT0 hle hX' hr hn' (by have:=Hn.out;omega) (hX'.cnt (znp (zde p) (zoD (zde p) n j) (by omega) k) (by omega));have yk:=hX'.kp.typ _ _ _ x0 (by decide) (by decide) (by decide);have c0:wr.cell? ⟨w.heap.size,0,none⟩=some (.iface t x):=(zaf yk).1;obtain⟨d0,d1,d2,-,-,-⟩:=zaf hr;have hi0:(0:Int)<=(k:Int):=by omega
     have hi1:(k:Int)<(m:Int):=by omega
     have Hj2:Hid ((j+k)*(wPt p).toNat+(wPt p).toNat=(j+(k+1))*(wPt p).toNat):=by show _=_;rw[<-Nat.add_assoc,Nat.add_mul _ 1,Nat.one_mul]
     clear Hj hX' yk hr hn';go_wp2
     go_region_law ((first|(refine zcQ (by rfl) 163 #[.tmp 43,.tmp 45] #[224,184] (by rfl) #[.pointer (some ⟨bt,0,none⟩),.iface t x] (by simp[Act.eval]) _ (zdt _ _) hw ?_;rintro _ W4 ⟨n2,ha,hl,c,rfl,Hn2,⟨z0,z1,z2⟩,HX,hsq⟩)|(refine zef (by rfl) 187 #[.tmp 42,.tmp 46,.tmp 47] #[224,226,226] (by rfl) _ (by simp[Act.eval]) _ _ (zgp _ _) hsq ?_;rintro W5 ⟨D5,hKU⟩;have y0:=hKU _ _ _ HX.out (by decide);obtain⟨k0,k1,k2,f0,f1,f2⟩:=zaf y0)))
     all_goals
      obtain⟨q5,q6⟩:=D5.put3 y0 hrW hp0 (.bool (c&&b)) (.slice (some ⟨ha,0,none⟩) nw nw) (.slice (some ⟨gl',0,none⟩) nw nw);clear hw hsq y0 hKU HX z0 z1 z2 d0 d1 d2 c0 D5 k0 k1 k2 f0 f1 f2;generalize ((W5.setCell ⟨W1.heap.size,0,none⟩ (.bool (c&&b))).setCell ⟨W1.heap.size,1,none⟩ (.slice (some ⟨ha,0,none⟩) nw nw)).setCell ⟨W1.heap.size,2,none⟩ (.slice (some ⟨gl',0,none⟩) nw nw)=W6 at *;go_wp2
      go_roundw
      case rel=>exact⟨k+1,by omega,by go_num,n2,ha,gl',c&&b,q6,by have:=Hn2.out;have:=Hj2.out;omega,q5.words rfl⟩
      case measure=>simp[intOf];omega
    ·have hkm:k=m:=by omega
     subst hkm;obtain⟨sv5,fv5,mk5,f5,fr5,F5,A5,L5,D⟩:=hX';have yk:=D.kp.typ _ _ _ x1 (by decide) (by decide) (by decide);obtain⟨k0,k1,k2,f0,f1,f2⟩:=zaf yk;obtain⟨d0,d1,d2,-,-,-⟩:=zaf hr;have hret:=((D.start hb0 (by omega)).words (N:=unD (.rep p (k:Int) (e:Int)) n) (by rw[Hme.out];exact zky n p k j)).ret (m:=e*(wPt p).toNat) yk (by omega) hpos (by rw[Hme.out,Nat.add_comm k j];exact hn');clear D yk hr;go_wp2;exact zvV (by simp[results,Tryz.results189,go_sem,k0,k1,k2]) rfl hret
end
section
attribute [local go_sem ↓] Go.wp_at_zero Go.wp_at_succ
theorem zlh(p:Pt)(ih:WrC p)(m e:Nat)(hme:e=m+1)(he:m<=255)(B n nw bt:Nat)(sv fv:Value)(mk:Nat->Nat)(f:Nat->Nat->Bool)(fr:Nat->Nat)(F:Nat->Nat->Nat)(w:World)(t:TypeId)(x:Value)(h:Trk B w n nw bt sv fv mk f fr F)(hT:zan w (.iface t x) p)(hle:wPt p<=2000)(hn:n+e*(wPt p).toNat<=64*nw):
  Calls Tryz.prog 189 #[.pointer (some ⟨bt,0,none⟩),.agg #[.iface t x,.int .i64 m,.int .i64 (-1)]] w fun r W=>WrR B w n nw bt mk f fr F (e*(wPt p).toNat) (unD (.rep p m (-1)) n) r W:=by
 have hpos:=zbK h.bru;have hbt:bt<w.heap.size:=(zuH.1 h.box).1;have hbb:=h.bb;have hnw:=h.nwl;obtain⟨W0,hW0⟩:∃W0,(w.alloc (.cells #[.iface t x,.int .i64 m,.int .i64 (-1)] 261)).alloc (.cells #[.bool false,.slice none 0 0,.slice none 0 0] 226)=W0:=⟨_,rfl⟩;have hb0:Below w.heap.size w W0:=by rw[<-hW0];exact((Below.refl _ _).alloc (zvJ _) _).alloc (by simp) _
 have x0:W0.heap[w.heap.size]?=some (.cells #[.iface t x,.int .i64 m,.int .i64 (-1)] 261 (0,0)):=by rw[<-hW0];exact zak (zvZ _ _)
 have x1:W0.heap[w.heap.size+1]?=some (.cells #[.bool false,.slice none 0 0,.slice none 0 0] 226 (0,0)):=by rw[<-hW0];exact zdM _ _ _
 have hs0:=hb0.size;have h0:=h.below hb0;have hT0:=zan.keep (.of hb0) p _ hT;have hba:=zk9 nw bt true sv fv W0 h0.box hnw;have Hmul:Hid (∀a b:Nat,a+b<=e->a*(wPt p).toNat+b*(wPt p).toNat<=e*(wPt p).toNat):=fun a b hab=>by rw[<-Nat.add_mul];exact Nat.mul_le_mul_right _ hab
 have Hme:Hid (e=m+1):=hme;have hm255:m<=255:=by omega
 clear hme
 go_enter Tryz.func189,Tryz.ntmps189
 go_wp2_with fail
 refine hba.mono ?_;rintro e1 W1 ⟨ga,gl,rfl,na,nl,hfr,hb1⟩;clear hba hW0;obtain⟨W2,hW2⟩:∃W2,W1.alloc (.cells #[.bool true,.slice (some ⟨ga,0,none⟩) nw nw,.slice (some ⟨gl,0,none⟩) nw nw] 226)=W2:=⟨_,rfl⟩;have hb2:Below W1.heap.size W1 W2:=by rw[<-hW2];exact(Below.refl _ _).alloc (zvJ _) _
 have r2:W2.heap[W1.heap.size]?=some (.cells #[.bool true,.slice (some ⟨ga,0,none⟩) nw nw,.slice (some ⟨gl,0,none⟩) nw nw] 226 (0,0)):=by rw[<-hW2];exact zvZ _ _
 have D0:=(WrD.bare h0 true na nl hfr hb1).below hb2;have hs1:=hb1.size;have y0:=D0.kp.typ _ _ _ x0 (by decide) (by decide) (by decide);obtain⟨c0,c1,c2,-,-,-⟩:=zaf y0;have Hn:Hid (n+e*(wPt p).toNat<=64*nw):=hn;have hrW:W0.heap.size<=W1.heap.size:=hs1;have hp0:0<W0.heap.size:=by omega
 have hb02:Below W0.heap.size W0 W2:=hb1.trans (hb2.mono hs1);have hone:=Hmul.out 1 0 (by have:=Hme.out;omega);have hc:=ih B n nw bt sv fv mk f fr F W2 (.iface t x) (h0.below hb02) (zan.keep (.of hb02) p _ hT0) hle (by omega);clear hn hs1 D0 hfr y0 hb1 hb2 na nl h h0 hT
 go_wp2_with fail
 refine hc.mono ?_;rintro e3 W3 ⟨n1,ha,hl,c,sv3,fv3,mk3,f3,fr3,F3,A3,L3,rfl,hk3,D3⟩;clear hc hW2 c0 c1 c2;have r3:=D3.kp.typ _ _ _ r2 (by decide) (by decide) (by decide);have D3':=D3.start hb02 (by omega);obtain⟨k0,k1,k2,f0,f1,f2⟩:=zaf r3;obtain⟨⟨sv4,fv4,mk4,f4,fr4,F4,A4,L4,q5⟩,q6⟩:=WrX.put3 ⟨_,_,_,_,_,_,_,_,D3'⟩ r3 hrW hp0 (.bool c) (.slice (some ⟨ha,0,none⟩) nw nw) (.slice (some ⟨hl,0,none⟩) nw nw);have hlk:=zsu q5;obtain⟨W4,hW4⟩:∃W4,((W3.setCell ⟨W1.heap.size,0,none⟩ (.bool c)).setCell ⟨W1.heap.size,1,none⟩ (.slice (some ⟨ha,0,none⟩) nw nw)).setCell ⟨W1.heap.size,2,none⟩ (.slice (some ⟨hl,0,none⟩) nw nw)=W4:=⟨_,rfl⟩;rw[hW4] at hlk q6 q5;have y4:=q5.kp.typ _ _ _ x0 (by decide) (by decide) (by decide);obtain⟨d0,d1,d2,-,-,-⟩:=zaf q6;clear D3 D3' r3 r2 q5
 go_wp2_with fail
 refine hlk.mono ?_;rintro e5 W5 ⟨rfl,hX5,hKU⟩;clear hlk hW4 k0 k1 k2 f0 f1 f2 d0 d1 d2;have r5:=hKU _ _ _ q6 (by decide);have y5:=hKU _ _ _ y4 (by decide);obtain⟨k0,-,-,f0,-,-⟩:=zaf r5;have hX6:=hX5.putF (o:=0) (v:=.bool true) r5 hrW hp0;have r6:=zv1 _ _ 0 _ _ (.bool true) r5;have y6:=hX6.kp.typ _ _ _ x0 (by decide) (by decide) (by decide);obtain⟨-,c1,c2,-,-,-⟩:=zaf y6;have hsub:(-1:Int)-(m:Int)=-((m:Int)+1):=by omega
 clear q6 y4 y5 hX5 hKU r5;go_wp2;generalize hW6:W5.setCell ⟨W1.heap.size,0,none⟩ (.bool true)=W6 at *;clear hW6 k0 f0 c1 c2
 go_loopw [27] (fun i wr=>i=.int .i64 0/\wr=W6) (fun _ _=>0)
 case atStart=>exact⟨rfl,rfl⟩
 case round=>
   obtain⟨rfl,rfl⟩:=hrel;have hneg:¬(0:Int) < -((m:Int)+1):=by omega
   have yk:=hX6.kp.typ _ _ _ x0 (by decide) (by decide) (by decide);have c1:wr.cell? ⟨w.heap.size,1,none⟩=some (.int .i64 m):=(zaf yk).2.1;have hX2:Cps B W0 n nw bt mk f fr F W1.heap.size (1*(wPt p).toNat) (ahD (unD p) (cntP p) (PA.star (unD p n)) (n+1*cntP p) 0) wr:=⟨n1,ha,hl,true,r6,by omega,hX6.words rfl⟩;clear yk;go_wp2;clear c1
   go_loopw [40] (fun i wr=>∃k:Nat,k<=m/\i=.int .i64 k/\Cps B W0 n nw bt mk f fr F W1.heap.size ((1+k)*(wPt p).toNat) (ahD (unD p) (cntP p) (PA.star (unD p n)) (n+1*cntP p) k) wr)
    (fun i _=>m-(intOf i).toNat)
   case atStart=>exact⟨0,zvT _,rfl,hX2⟩
   case round=>
    clear hX2;obtain⟨k,hk,rfl,n',ga',gl',b,hr,hn',hX'⟩:=hrel
    by_cases hlt:k<m
    ·have Hj:=Hmul.out (1+k) 1 (by have:=Hme.out;omega);have hw:=ziU ih hT0 hle hX' hr hn' (by have:=Hn.out;omega) (hX'.cnt (znp (zde p) (zsO p n) (by omega) k) (by omega));have yk:=hX'.kp.typ _ _ _ x0 (by decide) (by decide) (by decide);have c0:wr.cell? ⟨w.heap.size,0,none⟩=some (.iface t x):=(zaf yk).1;obtain⟨d0,d1,d2,-,-,-⟩:=zaf hr;have hi0:(0:Int)<=(k:Int):=by omega
     have hi1:(k:Int)<(m:Int):=by omega
     have Hj2:Hid ((1+k)*(wPt p).toNat+(wPt p).toNat=(1+(k+1))*(wPt p).toNat):=by show _=_;rw[<-Nat.add_assoc,Nat.add_mul _ 1,Nat.one_mul]
     clear Hj hX' yk hr hn';go_wp2
     go_region_law ((first|(refine zcQ (by rfl) 163 #[.tmp 43,.tmp 45] #[224,184] (by rfl) #[.pointer (some ⟨bt,0,none⟩),.iface t x] (by simp[Act.eval]) _ (zdt _ _) hw ?_;rintro _ W4 ⟨n2,ha,hl,c,rfl,Hn2,⟨z0,z1,z2⟩,HX,hsq⟩)|(refine zef (by rfl) 187 #[.tmp 42,.tmp 46,.tmp 47] #[224,226,226] (by rfl) _ (by simp[Act.eval]) _ _ (zgp _ _) hsq ?_;rintro W5 ⟨D5,hKU⟩;have y0:=hKU _ _ _ HX.out (by decide);obtain⟨k0,k1,k2,f0,f1,f2⟩:=zaf y0)))
     all_goals
      obtain⟨q5,q6⟩:=D5.put3 y0 hrW hp0 (.bool (c&&b)) (.slice (some ⟨ha,0,none⟩) nw nw) (.slice (some ⟨gl',0,none⟩) nw nw);clear hw hsq y0 hKU HX z0 z1 z2 d0 d1 d2 c0 D5 k0 k1 k2 f0 f1 f2;generalize ((W5.setCell ⟨W1.heap.size,0,none⟩ (.bool (c&&b))).setCell ⟨W1.heap.size,1,none⟩ (.slice (some ⟨ha,0,none⟩) nw nw)).setCell ⟨W1.heap.size,2,none⟩ (.slice (some ⟨gl',0,none⟩) nw nw)=W6 at *;go_wp2
      go_roundw
      case rel=>exact⟨k+1,by omega,by go_num,n2,ha,gl',c&&b,q6,by have:=Hn2.out;have:=Hj2.out;omega,q5.words rfl⟩
      case measure=>simp[intOf];omega
    ·have hkm:k=m:=by omega
     subst hkm;obtain⟨sv5,fv5,mk5,f5,fr5,F5,A5,L5,D⟩:=hX';have yk:=D.kp.typ _ _ _ x1 (by decide) (by decide) (by decide);obtain⟨k0,k1,k2,f0,f1,f2⟩:=zaf yk;obtain⟨d0,d1,d2,-,-,-⟩:=zaf hr;have hret:=((D.start hb0 (by omega)).words (N:=unD (.rep p (k:Int) (-1)) n) (zkx n p k)).ret (m:=e*(wPt p).toNat) yk (by omega) hpos (by rw[Hme.out,Nat.add_comm k 1];exact hn');clear D yk hr;go_wp2;exact zvV (by simp[results,Tryz.results189,go_sem,k0,k1,k2]) rfl hret
end
section
attribute [local go_sem ↓] Go.wp_at_zero Go.wp_at_succ
theorem WrR.wide{B:Nat}{w:World}{n nw bt:Nat}{mk:Nat->Nat}{f:Nat->Nat->Bool}{fr:Nat->Nat}{F:Nat->Nat->Nat}{k k':Nat}{M:PA}{e:Ending}{W:World}(h:WrR B w n nw bt mk f fr F k M e W)(hk:k<=k'):WrR B w n nw bt mk f fr F k' M e W:=by
 obtain⟨n',ga,gl,b,sv,fv,mk',f',fr',F',A,L,h1,h2,h3⟩:=h;exact⟨n',ga,gl,b,sv,fv,mk',f',fr',F',A,L,h1,by omega,h3⟩
theorem znA(p:Pt)(ih:WrC p)(mn mx:Int)(hbd:zaM mn mx=true)(B n nw bt:Nat)(sv fv:Value)(mk:Nat->Nat)(f:Nat->Nat->Bool)(fr:Nat->Nat)(F:Nat->Nat->Nat)(w:World)(t:TypeId)(x:Value)(h:Trk B w n nw bt sv fv mk f fr F)(hT:zan w (.iface t x) p)(hle:wPt (.rep p mn mx)<=2000)(hn:n+(wPt (.rep p mn mx)).toNat<=64*nw):
  Calls Tryz.prog 189 #[.pointer (some ⟨bt,0,none⟩),.agg #[.iface t x,.int .i64 mn,.int .i64 mx]] w fun r W=>WrR B w n nw bt mk f fr F (wPt (.rep p mn mx)).toNat (unD (.rep p mn mx) n) r W:=by
 have hp1:=(zbw p _ hT).1;have hc:=zcZ hbd;have e:wPt (.rep p mn mx)=capW (wPt p*zaV mn mx):=rfl;have hw:wPt (.rep p mn mx)=wPt p*zaV mn mx:=by
  rw[e] at hle ⊢;unfold capW at hle ⊢;split
  ·rfl
  ·rw[zv2 (by assumption)] at hle;omega
 rw[hw] at hle hn ⊢;clear e hw;obtain⟨wb,hwb⟩:∃wb:Nat,wPt p=wb:=⟨(wPt p).toNat,by omega⟩;obtain⟨c,hcc⟩:∃c:Nat,zaV mn mx=c:=⟨(zaV mn mx).toNat,by omega⟩;have htn:(wPt p).toNat=wb:=by omega
 have hprod:wPt p*zaV mn mx=((c*wb:Nat):Int):=by rw[hwb,hcc,Int.mul_comm];simp
 rw[hprod] at hle hn ⊢;rw[zuO] at hn ⊢;have hple:wPt p<=2000:=by
  have h1:1*wb<=c*wb:=Nat.mul_le_mul_right _ (by omega);omega
 have hbd':=hbd;simp[zaM] at hbd';obtain⟨⟨h1,h2⟩,h3⟩:=hbd';obtain⟨m,rfl⟩:∃m:Nat,mn=m:=⟨mn.toNat,by omega⟩
 by_cases hx:mx=-1
 ·subst hx;have hcm:c=m+1:=by
   unfold zaV at hcc;rw[zv3 rfl] at hcc;omega
  have:=zlh p ih m c hcm (by omega) B n nw bt sv fv mk f fr F w t x h hT hple (by rw[htn];exact hn);rw[htn] at this;exact this
 ·obtain⟨ee,rfl⟩:∃ee:Nat,mx=ee:=⟨mx.toNat,by omega⟩;have hce:ee<=c:=by
   unfold zaV at hcc;rw[zv2 hx] at hcc;split at hcc<;>omega
  have hmul:ee*wb<=c*wb:=Nat.mul_le_mul_right _ hce;have:=zli p ih m (ee-m) ee (by omega) (by omega) B n nw bt sv fv mk f fr F w t x h hT hple (by rw[htn];omega);rw[htn] at this;exact this.mono fun e W hR=>hR.wide hmul
theorem zqZ(p:Pt)(mn mx:Int)(ih:WrC p):WrC (.rep p mn mx):=by
 intro B n nw bt sv fv mk f fr F w v h hT hle hn;obtain⟨lv,rfl,hl,hbd⟩:=hT;have hpos:=zbK h.bru;have hbt:bt<w.heap.size:=(zuH.1 h.box).1;have hbb:=h.bb;obtain⟨t,x,rfl⟩:=zaC hl;obtain⟨W0,hW0⟩:∃W0,(w.alloc (.cells #[.bool false,.slice none 0 0,.slice none 0 0] 226)).alloc (.cells #[.iface t x,.int .i64 mn,.int .i64 mx] 261)=W0:=⟨_,rfl⟩;have hb0:Below w.heap.size w W0:=by rw[<-hW0];exact((Below.refl _ _).alloc (zvJ _) _).alloc (by simp) _
 have x0:W0.heap[w.heap.size]?=some (.cells #[.bool false,.slice none 0 0,.slice none 0 0] 226 (0,0)):=by rw[<-hW0];exact zak (zvZ _ _)
 have x1:W0.heap[w.heap.size+1]?=some (.cells #[.iface t x,.int .i64 mn,.int .i64 mx] 261 (0,0)):=by rw[<-hW0];exact zdM _ _ _
 obtain⟨q0,q1,q2,-,-,-⟩:=zaf x1;have hc:=znA p ih mn mx hbd B n nw bt sv fv mk f fr F W0 t x (h.below hb0) (zan.keep (.of hb0) p _ hl) hle hn;have a1:=zn8;have a2:=zn7;have a3:=zn6;have a4:=ztV;clear hle hn hbd
 go_enter Tryz.func163,Tryz.ntmps163
 go_wp2_with fail
 refine hc.mono ?_;rintro e W ⟨n',ga,gl,b,sv',fv',mk',f',fr',F',A,L,rfl,hk,D⟩;have u0:=D.kp.typ _ _ _ x0 (by decide) (by decide) (by decide);obtain⟨k0,k1,k2,f0,f1,f2⟩:=zaf u0;have hret:=(D.start hb0 (by omega)).ret u0 (zvJ _) hpos hk;clear hc hW0 D hk;go_wp2;exact zvV (by simp[results,Tryz.results163,go_sem,k0,k1,k2]) rfl hret
theorem zdQ:∀p:Pt,WrC p
 |.set g=>zq1 g
 |.seq p q=>zq0 p q (zdQ p) (zdQ q)
 |.alt p q=>zqX p q (zdQ p) (zdQ q)
 |.rep p mn mx=>zqZ p mn mx (zdQ p)
 |.grp p g=>zqY p g (zdQ p)
end
variable{w:World}
theorem Trk.start{B:Nat}{nw bt:Nat}(hbb:B<=bt)(hb0:0<B)(h:zfu w bt nw (.slice none 0 0) (.slice none 0 0))(hnw:nw<=1000)(hB:za7 w)(mk:Nat->Nat)(f:Nat->Nat->Bool)(fr:Nat->Nat)(F:Nat->Nat->Nat):Trk B w 0 nw bt (.slice none 0 0) (.slice none 0 0) mk f fr F:=
 ⟨h,⟨rfl,.inl ⟨rfl,rfl⟩⟩,⟨rfl,.inl ⟨rfl,rfl⟩⟩,⟨fun _ hp=>absurd hp (zvQ _),fun _ _ hp=>absurd hp (zvQ _)⟩,fun _ hp=>absurd hp (zvQ _),zvT _,hnw,hB,hbb,hb0⟩
theorem zfr{P:Program}{ops:Array Oper}{rest:List Oper}{o:Oper}{a:Act}{Q:Exit->Act->World->Prop}(hg:o.guard=none)(t:TypeId)(x:Operand)(ho:o.op=.box t x)(cells:Array Value)(hx:(a.eval x).cells=cells)
  (h:wpList P ops Q rest (a.put o.dst (.pointer (some ⟨w.heap.size,0,none⟩))) (w.alloc (.cells cells t))):wpList P ops Q (o::rest) a w:=by
 subst hx;refine wpList_plain hg fun K hK=>?_
 unfold Oper.wp execOp;simp only[ho,Sem.run_bind,Instr.box,newVar,newRow,run_newObj_alloc,Sem.run_pure,Result.andThen_ok];exact hK _ _ h
theorem zjJ(k:Int):Tryz.prog.built 268 [(0,.int .i64 k)]=some #[.int .i64 k,.slice none 0 0,.slice none 0 0]:=by kernel_rfl
theorem zkp(wt nw:Nat)(hnw:nw=(wt+63)/64)(hwt:wt<=2001)(w:World):
  Calls Tryz.prog 162 #[.int .i64 wt] w fun e W=>e=.returned (.pointer (some ⟨w.heap.size,0,none⟩))/\W=w.alloc (.cells #[.int .i64 nw,.slice none 0 0,.slice none 0 0] 268):=by
 have e1:((wt:Int)+63)/64=(nw:Int):=by omega
 have e2:((wt:Int)+63).tdiv 64=(nw:Int):=by rw[<-e1];exact Int.tdiv_eq_ediv_of_nonneg (by omega)
 have hb:=zjJ nw;have hnl:nw<=1000:=by omega
 clear hnw
 go_enter Tryz.func162,Tryz.ntmps162
 go_wp2_with (first|(refine zek rfl 268 #[(0,.tmp 5)] rfl [(0,.int .i64 nw)] (by simp[Act.eval]) _ hb ?_)|(refine zfr rfl 268 (.tmp 6) rfl #[.int .i64 nw,.slice none 0 0,.slice none 0 0] rfl ?_))
 go_ret
 exact⟨rfl,rfl⟩
end Go.Proofs.YtdimhpfiieepiaaGreatDoor
