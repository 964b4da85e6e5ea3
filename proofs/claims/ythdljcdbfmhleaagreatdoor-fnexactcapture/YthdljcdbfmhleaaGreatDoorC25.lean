import Derived.Test.YthdljcdbfmhleaaGreatDoorC24
import Derived.Deep.RegionHeld3
namespace Go.Proofs.YthdljcdbfmhleaaGreatDoor
set_option maxHeartbeats 2000000
set_option maxRecDepth 100000
open Go.RowKit
attribute [local go_sem ↓] Go.wp_at_zero Go.wp_at_succ
theorem zqF(x:Value)(w:World):(Instr.typeAssert (.iface 201 x) 85 201 true).run Tryz.prog w=.ok (.tuple #[x,.bool true]) w:=by kernel_rfl
theorem zlK(x:Value)(w:World):(Instr.typeAssert (.iface 116 x) 85 201 true).run Tryz.prog w=.ok (.tuple #[.agg #[.pointer none],.bool false]) w:=by kernel_rfl
theorem zqE(x:Value)(w:World):(Instr.typeAssert (.iface 116 x) 85 116 true).run Tryz.prog w=.ok (.tuple #[x,.bool true]) w:=by kernel_rfl
theorem zlC(x:Value)(w:World):(Instr.typeAssert (.iface 118 x) 85 201 true).run Tryz.prog w=.ok (.tuple #[.agg #[.pointer none],.bool false]) w:=by kernel_rfl
theorem zlB(x:Value)(w:World):(Instr.typeAssert (.iface 118 x) 85 116 true).run Tryz.prog w=.ok (.tuple #[.agg #[.nilIface,.nilIface],.bool false]) w:=by kernel_rfl
theorem zqB(x:Value)(w:World):(Instr.typeAssert (.iface 118 x) 85 118 true).run Tryz.prog w=.ok (.tuple #[x,.bool true]) w:=by kernel_rfl
theorem zlJ(x:Value)(w:World):(Instr.typeAssert (.iface 121 x) 85 201 true).run Tryz.prog w=.ok (.tuple #[.agg #[.pointer none],.bool false]) w:=by kernel_rfl
theorem zlI(x:Value)(w:World):(Instr.typeAssert (.iface 121 x) 85 116 true).run Tryz.prog w=.ok (.tuple #[.agg #[.nilIface,.nilIface],.bool false]) w:=by kernel_rfl
theorem zlH(x:Value)(w:World):(Instr.typeAssert (.iface 121 x) 85 118 true).run Tryz.prog w=.ok (.tuple #[.agg #[.nilIface,.nilIface],.bool false]) w:=by kernel_rfl
theorem zqD(x:Value)(w:World):(Instr.typeAssert (.iface 121 x) 85 121 true).run Tryz.prog w=.ok (.tuple #[x,.bool true]) w:=by kernel_rfl
theorem zlG(x:Value)(w:World):(Instr.typeAssert (.iface 124 x) 85 201 true).run Tryz.prog w=.ok (.tuple #[.agg #[.pointer none],.bool false]) w:=by kernel_rfl
theorem zlF(x:Value)(w:World):(Instr.typeAssert (.iface 124 x) 85 116 true).run Tryz.prog w=.ok (.tuple #[.agg #[.nilIface,.nilIface],.bool false]) w:=by kernel_rfl
theorem zlD(x:Value)(w:World):(Instr.typeAssert (.iface 124 x) 85 118 true).run Tryz.prog w=.ok (.tuple #[.agg #[.nilIface,.nilIface],.bool false]) w:=by kernel_rfl
theorem zlE(x:Value)(w:World):(Instr.typeAssert (.iface 124 x) 85 121 true).run Tryz.prog w=.ok (.tuple #[.agg #[.nilIface,.int .i64 0,.int .i64 0],.bool false]) w:=by kernel_rfl
theorem zqC(x:Value)(w:World):(Instr.typeAssert (.iface 124 x) 85 124 true).run Tryz.prog w=.ok (.tuple #[x,.bool true]) w:=by kernel_rfl
theorem zcT(w:World)(a b:Obj):((w.alloc a).alloc b).heap[w.heap.size+1]?=some b:=by
 have:=zsp (w.alloc a) b
 simpa using this
theorem zn8(g:Nat->Bool):WrC (.set g):=by
 intro B n nw bt sv fv mk f fr F w v h hT hle hn;obtain⟨mg,rfl,hm⟩:=hT;have hpos:=zbm h.bru;have hbt:bt<w.heap.size:=(zrc.1 h.box).1;have hbb:=h.bb;have hn':n<64*nw:=by have:(wPt (.set g)).toNat=1:=rfl;omega
 obtain⟨W0,hW0⟩:∃W0,(w.alloc (.cells #[.bool false,.slice none 0 0,.slice none 0 0] 174)).alloc (.cells #[.pointer (some ⟨mg,0,none⟩)] 201)=W0:=⟨_,rfl⟩;have hb0:Below w.heap.size w W0:=by rw[<-hW0];exact((Below.refl _ _).alloc (zsa _) _).alloc (by simp) _
 have x0:W0.heap[w.heap.size]?=some (.cells #[.bool false,.slice none 0 0,.slice none 0 0] 174 (0,0)):=by rw[<-hW0];exact zah (zsp _ _)
 have x1:W0.heap[w.heap.size+1]?=some (.cells #[.pointer (some ⟨mg,0,none⟩)] 201 (0,0)):=by rw[<-hW0];exact zcT _ _ _
 have q0:W0.cell? ⟨w.heap.size+1,0,none⟩=some (.pointer (some ⟨mg,0,none⟩)):=(zsm _ _ _ _ _ _ x1:W0.cell? ⟨w.heap.size+1,0,none⟩=_);have hc:=zjQ B n nw bt mg sv fv mk f fr F g W0 (h.below hb0) ((hb0.block mg (zrc.1 hm).1).trans hm) hn';have a1:=zqF
 go_enter Tryz.func106,Tryz.ntmps106
 go_wp2_with fail
 refine hc.mono ?_;rintro e W ⟨n',ga,gl,b,sv',fv',mk',f',fr',F',A,L,rfl,hk,D⟩;have u0:=D.kp.typ _ _ _ x0 (by decide) (by decide) (by decide);obtain⟨k0,k1,k2,f0,f1,f2⟩:=zac u0;clear hc hW0;go_wp2;refine zsl (v:=.agg #[.bool b,.slice (some ⟨ga,0,none⟩) nw nw,.slice (some ⟨gl,0,none⟩) nw nw]) (by simp[results,Tryz.results106,go_sem,k0,k1,k2]) rfl ((D.start hb0 (by omega)).ret u0 (zsa _) hpos hk)
theorem zn5(p:Pt)(gi:Int)(ih:WrC p):WrC (.grp p gi):=by
 intro B n nw bt sv fv mk f fr F w v h hT hle hn;obtain⟨lv,rfl,hl⟩:=hT;have hpos:=zbm h.bru;have hbt:bt<w.heap.size:=(zrc.1 h.box).1;have hbb:=h.bb;have hle':wPt p<=2000:=hle;have hn':n+(wPt p).toNat<=64*nw:=hn;obtain⟨t,x,rfl⟩:=zaz hl;obtain⟨W0,hW0⟩:∃W0,(w.alloc (.cells #[.bool false,.slice none 0 0,.slice none 0 0] 174)).alloc (.cells #[.iface t x,.int .i64 gi] 124)=W0:=⟨_,rfl⟩;have hb0:Below w.heap.size w W0:=by rw[<-hW0];exact((Below.refl _ _).alloc (zsa _) _).alloc (by simp) _
 have x0:W0.heap[w.heap.size]?=some (.cells #[.bool false,.slice none 0 0,.slice none 0 0] 174 (0,0)):=by rw[<-hW0];exact zah (zsp _ _)
 have x1:W0.heap[w.heap.size+1]?=some (.cells #[.iface t x,.int .i64 gi] 124 (0,0)):=by rw[<-hW0];exact zcT _ _ _
 have q0:W0.cell? ⟨w.heap.size+1,0,none⟩=some (.iface t x):=(zsm _ _ _ _ _ _ x1:W0.cell? ⟨w.heap.size+1,0,none⟩=_);have hc:=ih B n nw bt sv fv mk f fr F W0 (.iface t x) (h.below hb0) (zai.keep (.of hb0) p _ hl) hle' hn';have a1:=zlG;have a2:=zlF;have a3:=zlD;have a4:=zlE;have a5:=zqC
 go_enter Tryz.func106,Tryz.ntmps106
 go_wp2_with fail
 refine hc.mono ?_;rintro e W ⟨n',ga,gl,b,sv',fv',mk',f',fr',F',A,L,rfl,hk,D⟩;have u0:=D.kp.typ _ _ _ x0 (by decide) (by decide) (by decide);obtain⟨k0,k1,k2,f0,f1,f2⟩:=zac u0;clear hc hW0;go_wp2;refine zsl (v:=.agg #[.bool b,.slice (some ⟨ga,0,none⟩) nw nw,.slice (some ⟨gl,0,none⟩) nw nw]) (by simp[results,Tryz.results106,go_sem,k0,k1,k2]) rfl ((D.start hb0 (by omega)).ret u0 (zsa _) hpos hk)
theorem zn7(p q:Pt)(ih1:WrC p)(ih2:WrC q):WrC (.seq p q):=by
 intro B n nw bt sv fv mk f fr F w v h hT hle hn;obtain⟨lv,rv,rfl,hl,hr⟩:=hT;have hpos:=zbm h.bru;have hbt:bt<w.heap.size:=(zrc.1 h.box).1;have hbb:=h.bb;have hp1:=(za8 p _ hl).1;have hq1:=(za8 q _ hr).1;have hpq:wPt (.seq p q)=wPt p+wPt q:=by
  have e:wPt (.seq p q)=capW (wPt p+wPt q):=rfl;rw[e] at hle ⊢;unfold capW at hle ⊢;split
  ·rfl
  ·rw[zss (by assumption)] at hle;omega
 have Hpq:Hid ((wPt (.seq p q)).toNat=(wPt p).toNat+(wPt q).toNat):=by show _=_;omega
 have hp2:wPt p<=2000:=by omega
 have hq2:wPt q<=2000:=by omega
 have hp3:n+(wPt p).toNat<=64*nw:=by omega
 have hq3:∀n',n'<=n+(wPt p).toNat->n'+(wPt q).toNat<=64*nw:=fun n' hk=>by omega
 clear hpq hle hn;obtain⟨t,x,rfl⟩:=zaz hl;obtain⟨t2,x2,rfl⟩:=zaz hr;obtain⟨W0,hW0⟩:∃W0,(w.alloc (.cells #[.bool false,.slice none 0 0,.slice none 0 0] 174)).alloc (.cells #[.iface t x,.iface t2 x2] 116)=W0:=⟨_,rfl⟩;have hb0:Below w.heap.size w W0:=by rw[<-hW0];exact((Below.refl _ _).alloc (zsa _) _).alloc (by simp) _
 have x0:W0.heap[w.heap.size]?=some (.cells #[.bool false,.slice none 0 0,.slice none 0 0] 174 (0,0)):=by rw[<-hW0];exact zah (zsp _ _)
 have x1:W0.heap[w.heap.size+1]?=some (.cells #[.iface t x,.iface t2 x2] 116 (0,0)):=by rw[<-hW0];exact zcT _ _ _
 have q0:W0.cell? ⟨w.heap.size+1,0,none⟩=some (.iface t x):=(zsm _ _ _ _ _ _ x1:W0.cell? ⟨w.heap.size+1,0,none⟩=_);have hc:=ih1 B n nw bt sv fv mk f fr F W0 (.iface t x) (h.below hb0) (zai.keep (.of hb0) p _ hl) hp2 hp3;have a1:=zlK;have a2:=zqE
 go_enter Tryz.func106,Tryz.ntmps106
 go_wp2_with fail
 refine hc.mono ?_;rintro e W2 ⟨n1,ga,gl,b,sv',fv',mk',f',fr',F',A,L,rfl,hk1,D1⟩;clear hc hW0 q0 a1 a2;have u0:=D1.kp.typ _ _ _ x0 (by decide) (by decide) (by decide);have u1:=D1.kp.typ _ _ _ x1 (by decide) (by decide) (by decide);obtain⟨W3,hW3⟩:∃W3,W2.alloc (.cells #[.bool b,.slice (some ⟨ga,0,none⟩) nw nw,.slice (some ⟨gl,0,none⟩) nw nw] 174)=W3:=⟨_,rfl⟩;have hb3:Below W2.heap.size W2 W3:=by rw[<-hW3];exact(Below.refl _ _).alloc (zsa _) _
 have v0:W3.heap[w.heap.size]?=_:=(hb3.block _ (zrc.1 u0).1).trans u0;have v1:W3.heap[w.heap.size+1]?=_:=(hb3.block _ (zrc.1 u1).1).trans u1;have v2:W3.heap[W2.heap.size]?=some (.cells #[.bool b,.slice (some ⟨ga,0,none⟩) nw nw,.slice (some ⟨gl,0,none⟩) nw nw] 174 (0,0)):=by rw[<-hW3];exact zsp _ _
 have c1:W3.cell? ⟨w.heap.size+1,1,none⟩=some (.iface t2 x2):=(zsm _ _ _ _ _ _ v1:W3.cell? ⟨w.heap.size+1,1,none⟩=_);obtain⟨d0,d1,d2,-,-,-⟩:=zac v2;have hb3d:Below W2.heap.size W2 W3.drew:=hb3.drew;have hc2:=ih2 B n1 nw bt sv' fv' mk' f' fr' F' W3.drew (.iface t2 x2) (D1.tk.below hb3d) (zai.keep (.of hb3d) q _ (zai.keep D1.kp.keepM q _ (zai.keep (.of hb0) q _ hr))) hq2 (hq3 n1 hk1);have hw2:Calls Tryz.prog 106 #[.pointer (some ⟨bt,0,none⟩),.iface t2 x2] W3.drew fun e W=>∃v,e=.returned v/\∃(n2 ha hl:Nat) (c:Bool),v=.agg #[.bool c,.slice (some ⟨ha,0,none⟩) nw nw,.slice (some ⟨hl,0,none⟩) nw nw]/\Hid (n2<=n+(wPt (.seq p q)).toNat)/\(W.cell? ⟨W2.heap.size,0,none⟩=some (.bool b)/\W.cell? ⟨W2.heap.size,1,none⟩=some (.slice (some ⟨ga,0,none⟩) nw nw)/\W.cell? ⟨W2.heap.size,2,none⟩=some (.slice (some ⟨gl,0,none⟩) nw nw))/\Hid (W.heap[w.heap.size]?=some (.cells #[.bool false,.slice none 0 0,.slice none 0 0] 174 (0,0)))/\
   Calls Tryz.prog 122 #[.pointer (some ⟨bt,0,none⟩),.agg #[.bool b,.slice (some ⟨ga,0,none⟩) nw nw,.slice (some ⟨gl,0,none⟩) nw nw],.agg #[.bool c,.slice (some ⟨ha,0,none⟩) nw nw,.slice (some ⟨hl,0,none⟩) nw nw]] W fun e W5=>e=.returned (.agg #[.bool (b&&c),.slice (some ⟨ga,0,none⟩) nw nw,.slice (some ⟨hl,0,none⟩) nw nw])/\WrX B W0 n nw bt mk f fr F W5 n2 ga hl (b&&c) (unD (.seq p q) n)/\KU W W5:=by
  refine hc2.mono ?_;rintro e W ⟨n2,ha,hl,c,sv2,fv2,mk2,f2,fr2,F2,A',L',rfl,hk2,D2⟩;refine⟨_,rfl,n2,ha,hl,c,rfl,?_,?_,D2.kp.typ _ _ _ v0 (by decide) (by decide) (by decide),by obtain rfl:n1=n+cntP p:=D1.cnt (zco p n) (by omega);exact znN (D1.pair hb3d D2)⟩
  ·show n2<=_;rw[Hpq.out];omega
  ·obtain⟨z0,z1,z2,-,-,-⟩:=zac (D2.kp.typ _ _ _ v2 (by decide) (by decide) (by decide));exact⟨z0,z1,z2⟩
 clear hc2 v1 v2 v0 u0 u1 x1 hq3 ih1 ih2 D1 hb3 hb3d h;go_wp2;clear hW3
 go_region_law ((first|(refine zb9 (by rfl) 106 #[.tmp 29,.tmp 31] #[172,85] (by rfl) #[.pointer (some ⟨bt,0,none⟩),.iface t2 x2] (by simp[Act.eval]) _ (zcB _ _) hw2 ?_;rintro _ W4 ⟨n2,ha,hl,c,rfl,Hn2,⟨z0,z1,z2⟩,HX,hsq⟩)|(refine zdi (by rfl) 122 #[.tmp 27,.tmp 28,.tmp 32] #[172,174,174] (by rfl) _ (by simp[Act.eval]) _ _ (ze9 _ _) hsq ?_;rintro W5 ⟨D5,hKU⟩;have y0:=hKU _ _ _ HX.out (by decide);obtain⟨k0,k1,k2,f0,f1,f2⟩:=zac y0)))
 all_goals
  obtain⟨sv5,fv5,mk5,f5,fr5,F5,A5,L5,D⟩:=D5;have hret:=(D.start hb0 (by omega)).ret y0 (zsa _) hpos Hn2.out;clear hw2 hsq D y0 hKU HX z0 z1 z2 d0 d1 d2 c1;go_wp2;exact zsl (by simp[results,Tryz.results106,go_sem,k0,k1,k2]) rfl hret
theorem zn4(p q:Pt)(ih1:WrC p)(ih2:WrC q):WrC (.alt p q):=by
 intro B n nw bt sv fv mk f fr F w v h hT hle hn;obtain⟨lv,rv,rfl,hl,hr⟩:=hT;have hpos:=zbm h.bru;have hbt:bt<w.heap.size:=(zrc.1 h.box).1;have hbb:=h.bb;have hp1:=(za8 p _ hl).1;have hq1:=(za8 q _ hr).1;have hpq:wPt (.alt p q)=wPt p+wPt q:=by
  have e:wPt (.alt p q)=capW (wPt p+wPt q):=rfl;rw[e] at hle ⊢;unfold capW at hle ⊢;split
  ·rfl
  ·rw[zss (by assumption)] at hle;omega
 have Hpq:Hid ((wPt (.alt p q)).toNat=(wPt p).toNat+(wPt q).toNat):=by show _=_;omega
 have hp2:wPt p<=2000:=by omega
 have hq2:wPt q<=2000:=by omega
 have hp3:n+(wPt p).toNat<=64*nw:=by omega
 have hq3:∀n',n'<=n+(wPt p).toNat->n'+(wPt q).toNat<=64*nw:=fun n' hk=>by omega
 clear hpq hle hn;obtain⟨t,x,rfl⟩:=zaz hl;obtain⟨t2,x2,rfl⟩:=zaz hr;obtain⟨W0,hW0⟩:∃W0,(w.alloc (.cells #[.bool false,.slice none 0 0,.slice none 0 0] 174)).alloc (.cells #[.iface t x,.iface t2 x2] 118)=W0:=⟨_,rfl⟩;have hb0:Below w.heap.size w W0:=by rw[<-hW0];exact((Below.refl _ _).alloc (zsa _) _).alloc (by simp) _
 have x0:W0.heap[w.heap.size]?=some (.cells #[.bool false,.slice none 0 0,.slice none 0 0] 174 (0,0)):=by rw[<-hW0];exact zah (zsp _ _)
 have x1:W0.heap[w.heap.size+1]?=some (.cells #[.iface t x,.iface t2 x2] 118 (0,0)):=by rw[<-hW0];exact zcT _ _ _
 have q0:W0.cell? ⟨w.heap.size+1,0,none⟩=some (.iface t x):=(zsm _ _ _ _ _ _ x1:W0.cell? ⟨w.heap.size+1,0,none⟩=_);have hc:=ih1 B n nw bt sv fv mk f fr F W0 (.iface t x) (h.below hb0) (zai.keep (.of hb0) p _ hl) hp2 hp3;have a1:=zlC;have a2:=zlB;have a3:=zqB
 go_enter Tryz.func106,Tryz.ntmps106
 go_wp2_with fail
 refine hc.mono ?_;rintro e W2 ⟨n1,ga,gl,b,sv',fv',mk',f',fr',F',A,L,rfl,hk1,D1⟩;clear hc hW0 q0 a1 a2 a3;have u0:=D1.kp.typ _ _ _ x0 (by decide) (by decide) (by decide);have u1:=D1.kp.typ _ _ _ x1 (by decide) (by decide) (by decide);obtain⟨W3,hW3⟩:∃W3,W2.alloc (.cells #[.bool b,.slice (some ⟨ga,0,none⟩) nw nw,.slice (some ⟨gl,0,none⟩) nw nw] 174)=W3:=⟨_,rfl⟩;have hb3:Below W2.heap.size W2 W3:=by rw[<-hW3];exact(Below.refl _ _).alloc (zsa _) _
 have v0:W3.heap[w.heap.size]?=_:=(hb3.block _ (zrc.1 u0).1).trans u0;have v1:W3.heap[w.heap.size+1]?=_:=(hb3.block _ (zrc.1 u1).1).trans u1;have v2:W3.heap[W2.heap.size]?=some (.cells #[.bool b,.slice (some ⟨ga,0,none⟩) nw nw,.slice (some ⟨gl,0,none⟩) nw nw] 174 (0,0)):=by rw[<-hW3];exact zsp _ _
 have c1:W3.cell? ⟨w.heap.size+1,1,none⟩=some (.iface t2 x2):=(zsm _ _ _ _ _ _ v1:W3.cell? ⟨w.heap.size+1,1,none⟩=_);obtain⟨d0,d1,d2,-,-,-⟩:=zac v2;have hb3d:Below W2.heap.size W2 W3.drew:=hb3.drew;have hc2:=ih2 B n1 nw bt sv' fv' mk' f' fr' F' W3.drew (.iface t2 x2) (D1.tk.below hb3d) (zai.keep (.of hb3d) q _ (zai.keep D1.kp.keepM q _ (zai.keep (.of hb0) q _ hr))) hq2 (hq3 n1 hk1);have hw2:Calls Tryz.prog 106 #[.pointer (some ⟨bt,0,none⟩),.iface t2 x2] W3.drew fun e W=>∃v,e=.returned v/\∃(n2 ha hl:Nat) (c:Bool),v=.agg #[.bool c,.slice (some ⟨ha,0,none⟩) nw nw,.slice (some ⟨hl,0,none⟩) nw nw]/\Hid (n2<=n+(wPt (.alt p q)).toNat)/\(W.cell? ⟨W2.heap.size,0,none⟩=some (.bool b)/\W.cell? ⟨W2.heap.size,1,none⟩=some (.slice (some ⟨ga,0,none⟩) nw nw)/\W.cell? ⟨W2.heap.size,2,none⟩=some (.slice (some ⟨gl,0,none⟩) nw nw))/\Hid (W.heap[w.heap.size]?=some (.cells #[.bool false,.slice none 0 0,.slice none 0 0] 174 (0,0)))/\
   Calls Tryz.prog 123 #[.pointer (some ⟨bt,0,none⟩),.agg #[.bool b,.slice (some ⟨ga,0,none⟩) nw nw,.slice (some ⟨gl,0,none⟩) nw nw],.agg #[.bool c,.slice (some ⟨ha,0,none⟩) nw nw,.slice (some ⟨hl,0,none⟩) nw nw]] W fun e W5=>e=.returned (.agg #[.bool (b || c),.slice (some ⟨ga,0,none⟩) nw nw,.slice (some ⟨gl,0,none⟩) nw nw])/\WrX B W0 n nw bt mk f fr F W5 n2 ga gl (b || c) (unD (.alt p q) n)/\KU W W5:=by
  refine hc2.mono ?_;rintro e W ⟨n2,ha,hl,c,sv2,fv2,mk2,f2,fr2,F2,A',L',rfl,hk2,D2⟩;refine⟨_,rfl,n2,ha,hl,c,rfl,?_,?_,D2.kp.typ _ _ _ v0 (by decide) (by decide) (by decide),by obtain rfl:n1=n+cntP p:=D1.cnt (zco p n) (by omega);exact zpS (D1.pair hb3d D2)⟩
  ·show n2<=_;rw[Hpq.out];omega
  ·obtain⟨z0,z1,z2,-,-,-⟩:=zac (D2.kp.typ _ _ _ v2 (by decide) (by decide) (by decide));exact⟨z0,z1,z2⟩
 clear hc2 v1 v2 v0 u0 u1 x1 hq3 ih1 ih2 D1 hb3 hb3d h;go_wp2;clear hW3
 go_region_law ((first|(refine zb9 (by rfl) 106 #[.tmp 43,.tmp 45] #[172,85] (by rfl) #[.pointer (some ⟨bt,0,none⟩),.iface t2 x2] (by simp[Act.eval]) _ (zcB _ _) hw2 ?_;rintro _ W4 ⟨n2,ha,hl,c,rfl,Hn2,⟨z0,z1,z2⟩,HX,hsq⟩)|(refine zdi (by rfl) 123 #[.tmp 41,.tmp 42,.tmp 46] #[172,174,174] (by rfl) _ (by simp[Act.eval]) _ _ (zjb _ _) hsq ?_;rintro W5 ⟨D5,hKU⟩;have y0:=hKU _ _ _ HX.out (by decide);obtain⟨k0,k1,k2,f0,f1,f2⟩:=zac y0)))
 all_goals
  obtain⟨sv5,fv5,mk5,f5,fr5,F5,A5,L5,D⟩:=D5;have hret:=(D.start hb0 (by omega)).ret y0 (zsa _) hpos Hn2.out;clear hw2 hsq D y0 hKU HX z0 z1 z2 d0 d1 d2 c1;go_wp2;exact zsl (by simp[results,Tryz.results106,go_sem,k0,k1,k2]) rfl hret
section
variable {B n nw bt n' ga gl k:Nat}{w W:World}{mk fr:Nat -> Nat}{f:Nat -> Nat -> Bool}{F:Nat -> Nat -> Nat}{b:Bool}{M:PA}{v:Value}
def Cps(B:Nat)(w:World)(n nw bt:Nat)(mk:Nat->Nat)(f:Nat->Nat->Bool)(fr:Nat->Nat)(F:Nat->Nat->Nat)(r N:Nat)(M:PA)(W:World):Prop:=
 ∃(n' ga gl:Nat) (b:Bool),W.heap[r]?=some (.cells #[.bool b,.slice (some ⟨ga,0,none⟩) nw nw,.slice (some ⟨gl,0,none⟩) nw nw] 174 (0,0))/\n'<=n+N/\WrX B w n nw bt mk f fr F W n' ga gl b M
theorem WrX.putF{o:Nat}{cs:Array Value}
  (h:WrX B w n nw bt mk f fr F W n' ga gl b M) (hb:W.heap[k]?=some (.cells cs 174 (0,0))) (h0:w.heap.size<=k) (h1:0<w.heap.size):WrX B w n nw bt mk f fr F (W.setCell ⟨k,o,none⟩ v) n' ga gl b M:=by
 obtain⟨sv,fv,mk',f',fr',F',A,L,D⟩:=h;exact⟨sv,fv,mk',f',fr',F',A,L,D.putF hb h0 h1⟩
theorem WrX.opt
  (h:WrX B w n nw bt mk f fr F W n' ga gl b M):WrX B w n nw bt mk f fr F W n' ga gl true (PA.opt M):=by
 obtain⟨sv,fv,mk',f',fr',F',A,L,D⟩:=h;exact⟨sv,fv,mk',f',fr',F',A,L,D.opt⟩
theorem WrX.words{N:PA}
  (h:WrX B w n nw bt mk f fr F W n' ga gl b M) (hl:M=N):WrX B w n nw bt mk f fr F W n' ga gl b N:=by
 obtain⟨sv,fv,mk',f',fr',F',A,L,D⟩:=h;exact⟨sv,fv,mk',f',fr',F',A,L,D.words hl⟩
theorem WrX.cnt
  (h:WrX B w n nw bt mk f fr F W n' ga gl b M) (hM:∀q,M.D q↔n<=q/\q<k) (hk:n<=k):n'=k:=by
 obtain⟨sv,fv,mk',f',fr',F',A,L,D⟩:=h;exact D.cnt hM hk
theorem WrX.kp
  (h:WrX B w n nw bt mk f fr F W n' ga gl b M):Kp B w W:=by
 obtain⟨sv,fv,mk',f',fr',F',A,L,D⟩:=h;exact D.kp
theorem WrX.put3{x y z:Value}
  (h:WrX B w n nw bt mk f fr F W n' ga gl b M) (hb:W.heap[k]?=some (.cells #[x,y,z] 174 (0,0))) (h0:w.heap.size<=k) (h1:0<w.heap.size) (v0 v1 v2:Value):
  WrX B w n nw bt mk f fr F (((W.setCell ⟨k,0,none⟩ v0).setCell ⟨k,1,none⟩ v1).setCell ⟨k,2,none⟩ v2) n' ga gl b M/\(((W.setCell ⟨k,0,none⟩ v0).setCell ⟨k,1,none⟩ v1).setCell ⟨k,2,none⟩ v2).heap[k]?=some (.cells #[v0,v1,v2] 174 (0,0)):=by
 have r1:=zsr _ _ 0 _ _ v0 hb;have r2:=zsr _ _ 1 _ _ v1 r1;have r3:=zsr _ _ 2 _ _ v2 r2;exact⟨((h.putF hb h0 h1).putF r1 h0 h1).putF r2 h0 h1,r3⟩
def zqy(B:Nat)(w:World)(n nw bt:Nat)(mk:Nat->Nat)(f:Nat->Nat->Bool)(fr:Nat->Nat)(F:Nat->Nat->Nat)(r N ga gl:Nat)(b:Bool)(p:Pt)(s:Nat)(M:PA)(v:Value)(W:World):Prop:=
 ∃(n2 ha hl:Nat) (c:Bool),v=.agg #[.bool c,.slice (some ⟨ha,0,none⟩) nw nw,.slice (some ⟨hl,0,none⟩) nw nw]/\Hid (n2<=n+(N+(wPt p).toNat))/\(W.cell? ⟨r,0,none⟩=some (.bool b)/\W.cell? ⟨r,1,none⟩=some (.slice (some ⟨ga,0,none⟩) nw nw)/\W.cell? ⟨r,2,none⟩=some (.slice (some ⟨gl,0,none⟩) nw nw))/\Hid (W.heap[r]?=some (.cells #[.bool b,.slice (some ⟨ga,0,none⟩) nw nw,.slice (some ⟨gl,0,none⟩) nw nw] 174 (0,0)))/\
  Calls Tryz.prog 122 #[.pointer (some ⟨bt,0,none⟩),.agg #[.bool c,.slice (some ⟨ha,0,none⟩) nw nw,.slice (some ⟨hl,0,none⟩) nw nw],.agg #[.bool b,.slice (some ⟨ga,0,none⟩) nw nw,.slice (some ⟨gl,0,none⟩) nw nw]] W fun e W5=>e=.returned (.agg #[.bool (c&&b),.slice (some ⟨ha,0,none⟩) nw nw,.slice (some ⟨gl,0,none⟩) nw nw])/\WrX B w n nw bt mk f fr F W5 n2 ha gl (c&&b) (PA.seq (unD p s) M)/\KU W W5
theorem zg8{r N:Nat}{p:Pt}(ih:WrC p)(hT:zai w v p)(hle:wPt p<=2000)
  (hX:WrX B w n nw bt mk f fr F W n' ga gl b M) (hr:W.heap[r]?=some (.cells #[.bool b,.slice (some ⟨ga,0,none⟩) nw nw,.slice (some ⟨gl,0,none⟩) nw nw] 174 (0,0))) (hn:n'<=n+N) (hN:n+(N+(wPt p).toNat)<=64*nw) {s:Nat} (hs:n'=s):
  Calls Tryz.prog 106 #[.pointer (some ⟨bt,0,none⟩),v] W.drew fun e W4=>∃v,e=.returned v/\zqy B w n nw bt mk f fr F r N ga gl b p s M v W4:=by
 subst hs;obtain⟨sv,fv,mk',f',fr',F',A,L,D⟩:=hX;have hb:Below W.heap.size W W.drew:=(Below.refl _ _).drew;refine(ih B n' nw bt sv fv mk' f' fr' F' W.drew v (D.tk.below hb) (zai.keep (.of hb) p _ (zai.keep D.kp.keepM p _ hT)) hle (by omega)).mono ?_;rintro e W4 ⟨n2,ha,hl,c,sv2,fv2,mk2,f2,fr2,F2,A',L',rfl,hk2,D2⟩;have hr4:=D2.kp.typ r _ _ hr (by decide) (by decide) (by decide);obtain⟨z0,z1,z2,-,-,-⟩:=zac hr4;exact⟨_,rfl,n2,ha,hl,c,rfl,by show n2<=_;omega,⟨z0,z1,z2⟩,hr4,znN (D.pair hb D2).swap⟩
end
theorem zja(p:Pt)(ih:WrC p)(m d e:Nat)(hme:e=m+d)(he:e<=255)(B n nw bt:Nat)(sv fv:Value)(mk:Nat->Nat)(f:Nat->Nat->Bool)(fr:Nat->Nat)(F:Nat->Nat->Nat)(w:World)(t:TypeId)(x:Value)(h:Trk B w n nw bt sv fv mk f fr F)(hT:zai w (.iface t x) p)(hle:wPt p<=2000)(hn:n+e*(wPt p).toNat<=64*nw):
  Calls Tryz.prog 124 #[.pointer (some ⟨bt,0,none⟩),.agg #[.iface t x,.int .i64 m,.int .i64 e]] w fun r W=>WrR B w n nw bt mk f fr F (e*(wPt p).toNat) (unD (.rep p m e) n) r W:=by
 have hpos:=zbm h.bru;have hbt:bt<w.heap.size:=(zrc.1 h.box).1;have hbb:=h.bb;have hnw:=h.nwl;obtain⟨W0,hW0⟩:∃W0,(w.alloc (.cells #[.iface t x,.int .i64 m,.int .i64 e] 121)).alloc (.cells #[.bool false,.slice none 0 0,.slice none 0 0] 174)=W0:=⟨_,rfl⟩;have hb0:Below w.heap.size w W0:=by rw[<-hW0];exact((Below.refl _ _).alloc (zsa _) _).alloc (by simp) _
 have x0:W0.heap[w.heap.size]?=some (.cells #[.iface t x,.int .i64 m,.int .i64 e] 121 (0,0)):=by rw[<-hW0];exact zah (zsp _ _)
 have x1:W0.heap[w.heap.size+1]?=some (.cells #[.bool false,.slice none 0 0,.slice none 0 0] 174 (0,0)):=by rw[<-hW0];exact zcT _ _ _
 have hs0:=hb0.size;have h0:=h.below hb0;have hT0:=zai.keep (.of hb0) p _ hT;have hba:=zi1 nw bt true sv fv W0 h0.box hnw;have hne:((e:Int) == -1)=false:=by simp
 have hsub:(e:Int)-(m:Int)=(d:Int):=by omega
 have Hmul:Hid (∀a b:Nat,a+b<=e->a*(wPt p).toNat+b*(wPt p).toNat<=e*(wPt p).toNat):=fun a b hab=>by rw[<-Nat.add_mul];exact Nat.mul_le_mul_right _ hab
 have Hme:Hid (e=m+d):=hme;have hd255:d<=255:=by omega
 have hm255:m<=255:=by omega
 clear hme
 go_enter Tryz.func124,Tryz.ntmps124
 go_wp2_with fail
 refine hba.mono ?_;rintro e1 W1 ⟨ga,gl,rfl,na,nl,hfr,hb1⟩;clear hba hW0;obtain⟨W2,hW2⟩:∃W2,W1.alloc (.cells #[.bool true,.slice (some ⟨ga,0,none⟩) nw nw,.slice (some ⟨gl,0,none⟩) nw nw] 174)=W2:=⟨_,rfl⟩;have hb2:Below W1.heap.size W1 W2:=by rw[<-hW2];exact(Below.refl _ _).alloc (zsa _) _
 have r2:W2.heap[W1.heap.size]?=some (.cells #[.bool true,.slice (some ⟨ga,0,none⟩) nw nw,.slice (some ⟨gl,0,none⟩) nw nw] 174 (0,0)):=by rw[<-hW2];exact zsp _ _
 have D0:=((WrD.bare h0 true na nl hfr hb1).below hb2).words (N:=upD (unD p) (cntP p) n 0) rfl;have hX:Cps B W0 n nw bt mk f fr F W1.heap.size (0*(wPt p).toNat) (upD (unD p) (cntP p) n 0) W2:=⟨n,ga,gl,true,r2,by omega,_,_,_,_,_,_,_,_,D0⟩;have hs1:=hb1.size;have y0:=D0.kp.typ _ _ _ x0 (by decide) (by decide) (by decide);obtain⟨c0,c1,c2,-,-,-⟩:=zac y0;clear D0 r2 hfr y0 hb1 hb2 na nl h h0 hT;have Hn:Hid (n+e*(wPt p).toNat<=64*nw):=hn;have hrW:W0.heap.size<=W1.heap.size:=hs1;have hp0:0<W0.heap.size:=by omega
 clear hn hs1;go_wp2;clear hW2 c0 c1 c2
 go_loopw [27] (fun i wr=>∃j:Nat,j<=d/\i=.int .i64 j/\Cps B W0 n nw bt mk f fr F W1.heap.size (j*(wPt p).toNat) (upD (unD p) (cntP p) n j) wr)
  (fun i _=>d-(intOf i).toNat)
 case atStart=>exact⟨0,zsj _,rfl,hX⟩
 case round=>
  obtain⟨j,hj,rfl,n',ga',gl',b,hr,hn',hX'⟩:=hrel
  by_cases hlt:j<d
  ·have Hj:=Hmul.out j 1 (by have:=Hme.out;omega);have hw:=zg8 ih hT0 hle hX' hr hn' (by have:=Hn.out;omega) (hX'.cnt (zl4 (zco p) n j) (by omega));have yk:=hX'.kp.typ _ _ _ x0 (by decide) (by decide) (by decide);have c0:wr.cell? ⟨w.heap.size,0,none⟩=some (.iface t x):=(zac yk).1;obtain⟨d0,d1,d2,-,-,-⟩:=zac hr;have hi0:(0:Int)<=(j:Int):=by omega
   have hi1:(j:Int)<(d:Int):=by omega
   have Hj2:Hid (j*(wPt p).toNat+(wPt p).toNat=(j+1)*(wPt p).toNat):=by show _=_;rw[Nat.add_mul,Nat.one_mul]
   clear Hj hX hX' yk hr hn';go_wp2
   go_region_law ((first|(refine zb9 (by rfl) 106 #[.tmp 30,.tmp 32] #[172,85] (by rfl) #[.pointer (some ⟨bt,0,none⟩),.iface t x] (by simp[Act.eval]) _ (zcB _ _) hw ?_;rintro _ W4 ⟨n2,ha,hl,c,rfl,Hn2,⟨z0,z1,z2⟩,HX,hsq⟩)|(refine zdi (by rfl) 122 #[.tmp 29,.tmp 33,.tmp 34] #[172,174,174] (by rfl) _ (by simp[Act.eval]) _ _ (ze9 _ _) hsq ?_;rintro W5 ⟨D5,hKU⟩;have y0:=hKU _ _ _ HX.out (by decide);obtain⟨k0,k1,k2,f0,f1,f2⟩:=zac y0)))
   all_goals
    obtain⟨q5,q6⟩:=D5.put3 y0 hrW hp0 (.bool (c&&b)) (.slice (some ⟨ha,0,none⟩) nw nw) (.slice (some ⟨gl',0,none⟩) nw nw);clear hw hsq y0 hKU HX z0 z1 z2 d0 d1 d2 c0 D5 k0 k1 k2 f0 f1 f2;generalize ((W5.setCell ⟨W1.heap.size,0,none⟩ (.bool (c&&b))).setCell ⟨W1.heap.size,1,none⟩ (.slice (some ⟨ha,0,none⟩) nw nw)).setCell ⟨W1.heap.size,2,none⟩ (.slice (some ⟨gl',0,none⟩) nw nw)=W6 at *;obtain⟨k0,-,-,f0,-,-⟩:=zac q6;go_wp2
    go_roundw
    case rel=>exact⟨j+1,by omega,by go_num,n2,ha,gl',true,zsr _ _ 0 _ _ _ q6,by have:=Hn2.out;have:=Hj2.out;omega,((q5.putF q6 hrW hp0).opt).words rfl⟩
    case measure=>simp[intOf];omega
  ·have hjd:j=d:=by omega
   subst hjd;have yk:=hX'.kp.typ _ _ _ x0 (by decide) (by decide) (by decide);have c1:wr.cell? ⟨w.heap.size,1,none⟩=some (.int .i64 m):=(zac yk).2.1;have hX2:Cps B W0 n nw bt mk f fr F W1.heap.size (j*(wPt p).toNat) (ahD (unD p) (cntP p) (upD (unD p) (cntP p) n j) (n+j*cntP p) 0) wr:=⟨n',ga',gl',b,hr,hn',hX'.words rfl⟩;clear hX' hr hn' yk hX;go_wp2;clear c1
   go_loopw [40] (fun i wr=>∃k:Nat,k<=m/\i=.int .i64 k/\Cps B W0 n nw bt mk f fr F W1.heap.size ((j+k)*(wPt p).toNat) (ahD (unD p) (cntP p) (upD (unD p) (cntP p) n j) (n+j*cntP p) k) wr)
    (fun i _=>m-(intOf i).toNat)
   case atStart=>exact⟨0,zsj _,rfl,hX2⟩
   case round=>
    clear hX2;obtain⟨k,hk,rfl,n',ga',gl',b,hr,hn',hX'⟩:=hrel
    by_cases hlt:k<m
    ·have Hj:=Hmul.out (j+k) 1 (by have:=Hme.out;omega);have hw:=zg8 ih hT0 hle hX' hr hn' (by have:=Hn.out;omega) (hX'.cnt (zk4 (zco p) (zl4 (zco p) n j) (by omega) k) (by omega));have yk:=hX'.kp.typ _ _ _ x0 (by decide) (by decide) (by decide);have c0:wr.cell? ⟨w.heap.size,0,none⟩=some (.iface t x):=(zac yk).1;obtain⟨d0,d1,d2,-,-,-⟩:=zac hr;have hi0:(0:Int)<=(k:Int):=by omega
     have hi1:(k:Int)<(m:Int):=by omega
     have Hj2:Hid ((j+k)*(wPt p).toNat+(wPt p).toNat=(j+(k+1))*(wPt p).toNat):=by show _=_;rw[<-Nat.add_assoc,Nat.add_mul _ 1,Nat.one_mul]
     clear Hj hX' yk hr hn';go_wp2
     go_region_law ((first|(refine zb9 (by rfl) 106 #[.tmp 43,.tmp 45] #[172,85] (by rfl) #[.pointer (some ⟨bt,0,none⟩),.iface t x] (by simp[Act.eval]) _ (zcB _ _) hw ?_;rintro _ W4 ⟨n2,ha,hl,c,rfl,Hn2,⟨z0,z1,z2⟩,HX,hsq⟩)|(refine zdi (by rfl) 122 #[.tmp 42,.tmp 46,.tmp 47] #[172,174,174] (by rfl) _ (by simp[Act.eval]) _ _ (ze9 _ _) hsq ?_;rintro W5 ⟨D5,hKU⟩;have y0:=hKU _ _ _ HX.out (by decide);obtain⟨k0,k1,k2,f0,f1,f2⟩:=zac y0)))
     all_goals
      obtain⟨q5,q6⟩:=D5.put3 y0 hrW hp0 (.bool (c&&b)) (.slice (some ⟨ha,0,none⟩) nw nw) (.slice (some ⟨gl',0,none⟩) nw nw);clear hw hsq y0 hKU HX z0 z1 z2 d0 d1 d2 c0 D5 k0 k1 k2 f0 f1 f2;generalize ((W5.setCell ⟨W1.heap.size,0,none⟩ (.bool (c&&b))).setCell ⟨W1.heap.size,1,none⟩ (.slice (some ⟨ha,0,none⟩) nw nw)).setCell ⟨W1.heap.size,2,none⟩ (.slice (some ⟨gl',0,none⟩) nw nw)=W6 at *;go_wp2
      go_roundw
      case rel=>exact⟨k+1,by omega,by go_num,n2,ha,gl',c&&b,q6,by have:=Hn2.out;have:=Hj2.out;omega,q5.words rfl⟩
      case measure=>simp[intOf];omega
    ·have hkm:k=m:=by omega
     subst hkm;obtain⟨sv5,fv5,mk5,f5,fr5,F5,A5,L5,D⟩:=hX';have yk:=D.kp.typ _ _ _ x1 (by decide) (by decide) (by decide);obtain⟨k0,k1,k2,f0,f1,f2⟩:=zac yk;obtain⟨d0,d1,d2,-,-,-⟩:=zac hr;have hret:=((D.start hb0 (by omega)).words (N:=unD (.rep p (k:Int) (e:Int)) n) (by rw[Hme.out];exact ziy n p k j)).ret (m:=e*(wPt p).toNat) yk (by omega) hpos (by rw[Hme.out,Nat.add_comm k j];exact hn');clear D yk hr;go_wp2;exact zsl (by simp[results,Tryz.results124,go_sem,k0,k1,k2]) rfl hret
end Go.Proofs.YthdljcdbfmhleaaGreatDoor
