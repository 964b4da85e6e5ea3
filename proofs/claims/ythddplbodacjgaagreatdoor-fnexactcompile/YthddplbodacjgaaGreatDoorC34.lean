import Derived.Test.YthddplbodacjgaaGreatDoorC33
import Derived.Deep.RegionHeld3
namespace Go.Proofs.YthddplbodacjgaaGreatDoor
set_option maxHeartbeats 2000000
set_option maxRecDepth 100000
open Go.RowKit
section
attribute [local go_sem ↓] Go.wp_at_zero Go.wp_at_succ
theorem zsZ(x:Value)(w:World):(Instr.typeAssert (.iface 165 x) 118 165 true).run Tryz.prog w=.ok (.tuple #[x,.bool true]) w:=by kernel_rfl
theorem znq(x:Value)(w:World):(Instr.typeAssert (.iface 168 x) 118 165 true).run Tryz.prog w=.ok (.tuple #[.agg #[.pointer none],.bool false]) w:=by kernel_rfl
theorem zsY(x:Value)(w:World):(Instr.typeAssert (.iface 168 x) 118 168 true).run Tryz.prog w=.ok (.tuple #[x,.bool true]) w:=by kernel_rfl
theorem zni(x:Value)(w:World):(Instr.typeAssert (.iface 170 x) 118 165 true).run Tryz.prog w=.ok (.tuple #[.agg #[.pointer none],.bool false]) w:=by kernel_rfl
theorem znh(x:Value)(w:World):(Instr.typeAssert (.iface 170 x) 118 168 true).run Tryz.prog w=.ok (.tuple #[.agg #[.nilIface,.nilIface],.bool false]) w:=by kernel_rfl
theorem zsV(x:Value)(w:World):(Instr.typeAssert (.iface 170 x) 118 170 true).run Tryz.prog w=.ok (.tuple #[x,.bool true]) w:=by kernel_rfl
theorem znp(x:Value)(w:World):(Instr.typeAssert (.iface 172 x) 118 165 true).run Tryz.prog w=.ok (.tuple #[.agg #[.pointer none],.bool false]) w:=by kernel_rfl
theorem zno(x:Value)(w:World):(Instr.typeAssert (.iface 172 x) 118 168 true).run Tryz.prog w=.ok (.tuple #[.agg #[.nilIface,.nilIface],.bool false]) w:=by kernel_rfl
theorem znn(x:Value)(w:World):(Instr.typeAssert (.iface 172 x) 118 170 true).run Tryz.prog w=.ok (.tuple #[.agg #[.nilIface,.nilIface],.bool false]) w:=by kernel_rfl
theorem zsX(x:Value)(w:World):(Instr.typeAssert (.iface 172 x) 118 172 true).run Tryz.prog w=.ok (.tuple #[x,.bool true]) w:=by kernel_rfl
theorem znm(x:Value)(w:World):(Instr.typeAssert (.iface 175 x) 118 165 true).run Tryz.prog w=.ok (.tuple #[.agg #[.pointer none],.bool false]) w:=by kernel_rfl
theorem znl(x:Value)(w:World):(Instr.typeAssert (.iface 175 x) 118 168 true).run Tryz.prog w=.ok (.tuple #[.agg #[.nilIface,.nilIface],.bool false]) w:=by kernel_rfl
theorem znj(x:Value)(w:World):(Instr.typeAssert (.iface 175 x) 118 170 true).run Tryz.prog w=.ok (.tuple #[.agg #[.nilIface,.nilIface],.bool false]) w:=by kernel_rfl
theorem znk(x:Value)(w:World):(Instr.typeAssert (.iface 175 x) 118 172 true).run Tryz.prog w=.ok (.tuple #[.agg #[.nilIface,.int .i64 0,.int .i64 0],.bool false]) w:=by kernel_rfl
theorem zsW(x:Value)(w:World):(Instr.typeAssert (.iface 175 x) 118 175 true).run Tryz.prog w=.ok (.tuple #[x,.bool true]) w:=by kernel_rfl
theorem zd3(w:World)(a b:Obj):((w.alloc a).alloc b).heap[w.heap.size+1]?=some b:=by
 have:=zuR (w.alloc a) b
 simpa using this
theorem zqa(g:Nat->Bool):WrC (.set g):=by
 intro B n nw bt sv fv mk f fr F w v h hT hle hn;obtain⟨mg,rfl,hm⟩:=hT;have hpos:=zbz h.bru;have hbt:bt<w.heap.size:=(ztp.1 h.box).1;have hbb:=h.bb;have hn':n<64*nw:=by have:(wPt (.set g)).toNat=1:=rfl;omega
 obtain⟨W0,hW0⟩:∃W0,(w.alloc (.cells #[.bool false,.slice none 0 0,.slice none 0 0] 115)).alloc (.cells #[.pointer (some ⟨mg,0,none⟩)] 165)=W0:=⟨_,rfl⟩;have hb0:Below w.heap.size w W0:=by rw[<-hW0];exact((Below.refl _ _).alloc (zuz _) _).alloc (by simp) _
 have x0:W0.heap[w.heap.size]?=some (.cells #[.bool false,.slice none 0 0,.slice none 0 0] 115 (0,0)):=by rw[<-hW0];exact zao (zuR _ _)
 have x1:W0.heap[w.heap.size+1]?=some (.cells #[.pointer (some ⟨mg,0,none⟩)] 165 (0,0)):=by rw[<-hW0];exact zd3 _ _ _
 have q0:W0.cell? ⟨w.heap.size+1,0,none⟩=some (.pointer (some ⟨mg,0,none⟩)):=(zuO _ _ _ _ _ _ x1:W0.cell? ⟨w.heap.size+1,0,none⟩=_);have hc:=zlq B n nw bt mg sv fv mk f fr F g W0 (h.below hb0) ((hb0.block mg (ztp.1 hm).1).trans hm) hn';have a1:=zsZ
 go_enter Tryz.func53,Tryz.ntmps53
 go_wp2_with fail
 refine hc.mono ?_;rintro e W ⟨n',ga,gl,b,sv',fv',mk',f',fr',F',A,L,rfl,hk,D⟩;have u0:=D.kp.typ _ _ _ x0 (by decide) (by decide) (by decide);obtain⟨k0,k1,k2,f0,f1,f2⟩:=zac u0;clear hc hW0;go_wp2;refine zuN (v:=.agg #[.bool b,.slice (some ⟨ga,0,none⟩) nw nw,.slice (some ⟨gl,0,none⟩) nw nw]) (by simp[results,Tryz.results53,go_sem,k0,k1,k2]) rfl ((D.start hb0 (by omega)).ret u0 (zuz _) hpos hk)
theorem zp6(p:Pt)(gi:Int)(ih:WrC p):WrC (.grp p gi):=by
 intro B n nw bt sv fv mk f fr F w v h hT hle hn;obtain⟨lv,rfl,hl⟩:=hT;have hpos:=zbz h.bru;have hbt:bt<w.heap.size:=(ztp.1 h.box).1;have hbb:=h.bb;have hle':wPt p<=2000:=hle;have hn':n+(wPt p).toNat<=64*nw:=hn;obtain⟨t,x,rfl⟩:=zck hl;obtain⟨W0,hW0⟩:∃W0,(w.alloc (.cells #[.bool false,.slice none 0 0,.slice none 0 0] 115)).alloc (.cells #[.iface t x,.int .i64 gi] 175)=W0:=⟨_,rfl⟩;have hb0:Below w.heap.size w W0:=by rw[<-hW0];exact((Below.refl _ _).alloc (zuz _) _).alloc (by simp) _
 have x0:W0.heap[w.heap.size]?=some (.cells #[.bool false,.slice none 0 0,.slice none 0 0] 115 (0,0)):=by rw[<-hW0];exact zao (zuR _ _)
 have x1:W0.heap[w.heap.size+1]?=some (.cells #[.iface t x,.int .i64 gi] 175 (0,0)):=by rw[<-hW0];exact zd3 _ _ _
 have q0:W0.cell? ⟨w.heap.size+1,0,none⟩=some (.iface t x):=(zuO _ _ _ _ _ _ x1:W0.cell? ⟨w.heap.size+1,0,none⟩=_);have hc:=ih B n nw bt sv fv mk f fr F W0 (.iface t x) (h.below hb0) (zaT.keep (.of hb0) p _ hl) hle' hn';have a1:=znm;have a2:=znl;have a3:=znj;have a4:=znk;have a5:=zsW
 go_enter Tryz.func53,Tryz.ntmps53
 go_wp2_with fail
 refine hc.mono ?_;rintro e W ⟨n',ga,gl,b,sv',fv',mk',f',fr',F',A,L,rfl,hk,D⟩;have u0:=D.kp.typ _ _ _ x0 (by decide) (by decide) (by decide);obtain⟨k0,k1,k2,f0,f1,f2⟩:=zac u0;clear hc hW0;go_wp2;refine zuN (v:=.agg #[.bool b,.slice (some ⟨ga,0,none⟩) nw nw,.slice (some ⟨gl,0,none⟩) nw nw]) (by simp[results,Tryz.results53,go_sem,k0,k1,k2]) rfl ((D.start hb0 (by omega)).ret u0 (zuz _) hpos hk)
theorem zp9(p q:Pt)(ih1:WrC p)(ih2:WrC q):WrC (.seq p q):=by
 intro B n nw bt sv fv mk f fr F w v h hT hle hn;obtain⟨lv,rv,rfl,hl,hr⟩:=hT;have hpos:=zbz h.bru;have hbt:bt<w.heap.size:=(ztp.1 h.box).1;have hbb:=h.bb;have hp1:=(zdP p _ hl).1;have hq1:=(zdP q _ hr).1;have hpq:wPt (.seq p q)=wPt p+wPt q:=by
  have e:wPt (.seq p q)=capW (wPt p+wPt q):=rfl;rw[e] at hle ⊢;unfold capW at hle ⊢;split
  ·rfl
  ·rw[zuU (by assumption)] at hle;omega
 have Hpq:Hid ((wPt (.seq p q)).toNat=(wPt p).toNat+(wPt q).toNat):=by show _=_;omega
 have hp2:wPt p<=2000:=by omega
 have hq2:wPt q<=2000:=by omega
 have hp3:n+(wPt p).toNat<=64*nw:=by omega
 have hq3:∀n',n'<=n+(wPt p).toNat->n'+(wPt q).toNat<=64*nw:=fun n' hk=>by omega
 clear hpq hle hn;obtain⟨t,x,rfl⟩:=zck hl;obtain⟨t2,x2,rfl⟩:=zck hr;obtain⟨W0,hW0⟩:∃W0,(w.alloc (.cells #[.bool false,.slice none 0 0,.slice none 0 0] 115)).alloc (.cells #[.iface t x,.iface t2 x2] 168)=W0:=⟨_,rfl⟩;have hb0:Below w.heap.size w W0:=by rw[<-hW0];exact((Below.refl _ _).alloc (zuz _) _).alloc (by simp) _
 have x0:W0.heap[w.heap.size]?=some (.cells #[.bool false,.slice none 0 0,.slice none 0 0] 115 (0,0)):=by rw[<-hW0];exact zao (zuR _ _)
 have x1:W0.heap[w.heap.size+1]?=some (.cells #[.iface t x,.iface t2 x2] 168 (0,0)):=by rw[<-hW0];exact zd3 _ _ _
 have q0:W0.cell? ⟨w.heap.size+1,0,none⟩=some (.iface t x):=(zuO _ _ _ _ _ _ x1:W0.cell? ⟨w.heap.size+1,0,none⟩=_);have hc:=ih1 B n nw bt sv fv mk f fr F W0 (.iface t x) (h.below hb0) (zaT.keep (.of hb0) p _ hl) hp2 hp3;have a1:=znq;have a2:=zsY
 go_enter Tryz.func53,Tryz.ntmps53
 go_wp2_with fail
 refine hc.mono ?_;rintro e W2 ⟨n1,ga,gl,b,sv',fv',mk',f',fr',F',A,L,rfl,hk1,D1⟩;clear hc hW0 q0 a1 a2;have u0:=D1.kp.typ _ _ _ x0 (by decide) (by decide) (by decide);have u1:=D1.kp.typ _ _ _ x1 (by decide) (by decide) (by decide);obtain⟨W3,hW3⟩:∃W3,W2.alloc (.cells #[.bool b,.slice (some ⟨ga,0,none⟩) nw nw,.slice (some ⟨gl,0,none⟩) nw nw] 115)=W3:=⟨_,rfl⟩;have hb3:Below W2.heap.size W2 W3:=by rw[<-hW3];exact(Below.refl _ _).alloc (zuz _) _
 have v0:W3.heap[w.heap.size]?=_:=(hb3.block _ (ztp.1 u0).1).trans u0;have v1:W3.heap[w.heap.size+1]?=_:=(hb3.block _ (ztp.1 u1).1).trans u1;have v2:W3.heap[W2.heap.size]?=some (.cells #[.bool b,.slice (some ⟨ga,0,none⟩) nw nw,.slice (some ⟨gl,0,none⟩) nw nw] 115 (0,0)):=by rw[<-hW3];exact zuR _ _
 have c1:W3.cell? ⟨w.heap.size+1,1,none⟩=some (.iface t2 x2):=(zuO _ _ _ _ _ _ v1:W3.cell? ⟨w.heap.size+1,1,none⟩=_);obtain⟨d0,d1,d2,-,-,-⟩:=zac v2;have hb3d:Below W2.heap.size W2 W3.drew:=hb3.drew;have hc2:=ih2 B n1 nw bt sv' fv' mk' f' fr' F' W3.drew (.iface t2 x2) (D1.tk.below hb3d) (zaT.keep (.of hb3d) q _ (zaT.keep D1.kp.keepM q _ (zaT.keep (.of hb0) q _ hr))) hq2 (hq3 n1 hk1);have hw2:Calls Tryz.prog 53 #[.pointer (some ⟨bt,0,none⟩),.iface t2 x2] W3.drew fun e W=>∃v,e=.returned v/\∃(n2 ha hl:Nat) (c:Bool),v=.agg #[.bool c,.slice (some ⟨ha,0,none⟩) nw nw,.slice (some ⟨hl,0,none⟩) nw nw]/\Hid (n2<=n+(wPt (.seq p q)).toNat)/\(W.cell? ⟨W2.heap.size,0,none⟩=some (.bool b)/\W.cell? ⟨W2.heap.size,1,none⟩=some (.slice (some ⟨ga,0,none⟩) nw nw)/\W.cell? ⟨W2.heap.size,2,none⟩=some (.slice (some ⟨gl,0,none⟩) nw nw))/\Hid (W.heap[w.heap.size]?=some (.cells #[.bool false,.slice none 0 0,.slice none 0 0] 115 (0,0)))/\
   Calls Tryz.prog 83 #[.pointer (some ⟨bt,0,none⟩),.agg #[.bool b,.slice (some ⟨ga,0,none⟩) nw nw,.slice (some ⟨gl,0,none⟩) nw nw],.agg #[.bool c,.slice (some ⟨ha,0,none⟩) nw nw,.slice (some ⟨hl,0,none⟩) nw nw]] W fun e W5=>e=.returned (.agg #[.bool (b&&c),.slice (some ⟨ga,0,none⟩) nw nw,.slice (some ⟨hl,0,none⟩) nw nw])/\WrX B W0 n nw bt mk f fr F W5 n2 ga hl (b&&c) (unf (.seq p q))/\KU W W5:=by
  refine hc2.mono ?_;rintro e W ⟨n2,ha,hl,c,sv2,fv2,mk2,f2,fr2,F2,A',L',rfl,hk2,D2⟩;refine⟨_,rfl,n2,ha,hl,c,rfl,?_,?_,D2.kp.typ _ _ _ v0 (by decide) (by decide) (by decide),zpy (D1.pair hb3d D2)⟩
  ·show n2<=_;rw[Hpq.out];omega
  ·obtain⟨z0,z1,z2,-,-,-⟩:=zac (D2.kp.typ _ _ _ v2 (by decide) (by decide) (by decide));exact⟨z0,z1,z2⟩
 clear hc2 v1 v2 v0 u0 u1 x1 hq3 ih1 ih2 D1 hb3 hb3d h;go_wp2;clear hW3
 go_region_law ((first|(refine zfg (by rfl) 53 #[.tmp 29,.tmp 31] #[100,118] (by rfl) #[.pointer (some ⟨bt,0,none⟩),.iface t2 x2] (by simp[Act.eval]) _ (zdE _ _) hw2 ?_;rintro _ W4 ⟨n2,ha,hl,c,rfl,Hn2,⟨z0,z1,z2⟩,HX,hsq⟩)|(refine zfI (by rfl) 83 #[.tmp 27,.tmp 28,.tmp 32] #[100,115,115] (by rfl) _ (by simp[Act.eval]) _ _ (zgg _ _) hsq ?_;rintro W5 ⟨D5,hKU⟩;have y0:=hKU _ _ _ HX.out (by decide);obtain⟨k0,k1,k2,f0,f1,f2⟩:=zac y0)))
 all_goals
  obtain⟨sv5,fv5,mk5,f5,fr5,F5,A5,L5,D⟩:=D5;have hret:=(D.start hb0 (by omega)).ret y0 (zuz _) hpos Hn2.out;clear hw2 hsq D y0 hKU HX z0 z1 z2 d0 d1 d2 c1;go_wp2;exact zuN (by simp[results,Tryz.results53,go_sem,k0,k1,k2]) rfl hret
theorem zp5(p q:Pt)(ih1:WrC p)(ih2:WrC q):WrC (.alt p q):=by
 intro B n nw bt sv fv mk f fr F w v h hT hle hn;obtain⟨lv,rv,rfl,hl,hr⟩:=hT;have hpos:=zbz h.bru;have hbt:bt<w.heap.size:=(ztp.1 h.box).1;have hbb:=h.bb;have hp1:=(zdP p _ hl).1;have hq1:=(zdP q _ hr).1;have hpq:wPt (.alt p q)=wPt p+wPt q:=by
  have e:wPt (.alt p q)=capW (wPt p+wPt q):=rfl;rw[e] at hle ⊢;unfold capW at hle ⊢;split
  ·rfl
  ·rw[zuU (by assumption)] at hle;omega
 have Hpq:Hid ((wPt (.alt p q)).toNat=(wPt p).toNat+(wPt q).toNat):=by show _=_;omega
 have hp2:wPt p<=2000:=by omega
 have hq2:wPt q<=2000:=by omega
 have hp3:n+(wPt p).toNat<=64*nw:=by omega
 have hq3:∀n',n'<=n+(wPt p).toNat->n'+(wPt q).toNat<=64*nw:=fun n' hk=>by omega
 clear hpq hle hn;obtain⟨t,x,rfl⟩:=zck hl;obtain⟨t2,x2,rfl⟩:=zck hr;obtain⟨W0,hW0⟩:∃W0,(w.alloc (.cells #[.bool false,.slice none 0 0,.slice none 0 0] 115)).alloc (.cells #[.iface t x,.iface t2 x2] 170)=W0:=⟨_,rfl⟩;have hb0:Below w.heap.size w W0:=by rw[<-hW0];exact((Below.refl _ _).alloc (zuz _) _).alloc (by simp) _
 have x0:W0.heap[w.heap.size]?=some (.cells #[.bool false,.slice none 0 0,.slice none 0 0] 115 (0,0)):=by rw[<-hW0];exact zao (zuR _ _)
 have x1:W0.heap[w.heap.size+1]?=some (.cells #[.iface t x,.iface t2 x2] 170 (0,0)):=by rw[<-hW0];exact zd3 _ _ _
 have q0:W0.cell? ⟨w.heap.size+1,0,none⟩=some (.iface t x):=(zuO _ _ _ _ _ _ x1:W0.cell? ⟨w.heap.size+1,0,none⟩=_);have hc:=ih1 B n nw bt sv fv mk f fr F W0 (.iface t x) (h.below hb0) (zaT.keep (.of hb0) p _ hl) hp2 hp3;have a1:=zni;have a2:=znh;have a3:=zsV
 go_enter Tryz.func53,Tryz.ntmps53
 go_wp2_with fail
 refine hc.mono ?_;rintro e W2 ⟨n1,ga,gl,b,sv',fv',mk',f',fr',F',A,L,rfl,hk1,D1⟩;clear hc hW0 q0 a1 a2 a3;have u0:=D1.kp.typ _ _ _ x0 (by decide) (by decide) (by decide);have u1:=D1.kp.typ _ _ _ x1 (by decide) (by decide) (by decide);obtain⟨W3,hW3⟩:∃W3,W2.alloc (.cells #[.bool b,.slice (some ⟨ga,0,none⟩) nw nw,.slice (some ⟨gl,0,none⟩) nw nw] 115)=W3:=⟨_,rfl⟩;have hb3:Below W2.heap.size W2 W3:=by rw[<-hW3];exact(Below.refl _ _).alloc (zuz _) _
 have v0:W3.heap[w.heap.size]?=_:=(hb3.block _ (ztp.1 u0).1).trans u0;have v1:W3.heap[w.heap.size+1]?=_:=(hb3.block _ (ztp.1 u1).1).trans u1;have v2:W3.heap[W2.heap.size]?=some (.cells #[.bool b,.slice (some ⟨ga,0,none⟩) nw nw,.slice (some ⟨gl,0,none⟩) nw nw] 115 (0,0)):=by rw[<-hW3];exact zuR _ _
 have c1:W3.cell? ⟨w.heap.size+1,1,none⟩=some (.iface t2 x2):=(zuO _ _ _ _ _ _ v1:W3.cell? ⟨w.heap.size+1,1,none⟩=_);obtain⟨d0,d1,d2,-,-,-⟩:=zac v2;have hb3d:Below W2.heap.size W2 W3.drew:=hb3.drew;have hc2:=ih2 B n1 nw bt sv' fv' mk' f' fr' F' W3.drew (.iface t2 x2) (D1.tk.below hb3d) (zaT.keep (.of hb3d) q _ (zaT.keep D1.kp.keepM q _ (zaT.keep (.of hb0) q _ hr))) hq2 (hq3 n1 hk1);have hw2:Calls Tryz.prog 53 #[.pointer (some ⟨bt,0,none⟩),.iface t2 x2] W3.drew fun e W=>∃v,e=.returned v/\∃(n2 ha hl:Nat) (c:Bool),v=.agg #[.bool c,.slice (some ⟨ha,0,none⟩) nw nw,.slice (some ⟨hl,0,none⟩) nw nw]/\Hid (n2<=n+(wPt (.alt p q)).toNat)/\(W.cell? ⟨W2.heap.size,0,none⟩=some (.bool b)/\W.cell? ⟨W2.heap.size,1,none⟩=some (.slice (some ⟨ga,0,none⟩) nw nw)/\W.cell? ⟨W2.heap.size,2,none⟩=some (.slice (some ⟨gl,0,none⟩) nw nw))/\Hid (W.heap[w.heap.size]?=some (.cells #[.bool false,.slice none 0 0,.slice none 0 0] 115 (0,0)))/\
   Calls Tryz.prog 84 #[.pointer (some ⟨bt,0,none⟩),.agg #[.bool b,.slice (some ⟨ga,0,none⟩) nw nw,.slice (some ⟨gl,0,none⟩) nw nw],.agg #[.bool c,.slice (some ⟨ha,0,none⟩) nw nw,.slice (some ⟨hl,0,none⟩) nw nw]] W fun e W5=>e=.returned (.agg #[.bool (b || c),.slice (some ⟨ga,0,none⟩) nw nw,.slice (some ⟨gl,0,none⟩) nw nw])/\WrX B W0 n nw bt mk f fr F W5 n2 ga gl (b || c) (unf (.alt p q))/\KU W W5:=by
  refine hc2.mono ?_;rintro e W ⟨n2,ha,hl,c,sv2,fv2,mk2,f2,fr2,F2,A',L',rfl,hk2,D2⟩;refine⟨_,rfl,n2,ha,hl,c,rfl,?_,?_,D2.kp.typ _ _ _ v0 (by decide) (by decide) (by decide),zrV (D1.pair hb3d D2)⟩
  ·show n2<=_;rw[Hpq.out];omega
  ·obtain⟨z0,z1,z2,-,-,-⟩:=zac (D2.kp.typ _ _ _ v2 (by decide) (by decide) (by decide));exact⟨z0,z1,z2⟩
 clear hc2 v1 v2 v0 u0 u1 x1 hq3 ih1 ih2 D1 hb3 hb3d h;go_wp2;clear hW3
 go_region_law ((first|(refine zfg (by rfl) 53 #[.tmp 43,.tmp 45] #[100,118] (by rfl) #[.pointer (some ⟨bt,0,none⟩),.iface t2 x2] (by simp[Act.eval]) _ (zdE _ _) hw2 ?_;rintro _ W4 ⟨n2,ha,hl,c,rfl,Hn2,⟨z0,z1,z2⟩,HX,hsq⟩)|(refine zfI (by rfl) 84 #[.tmp 41,.tmp 42,.tmp 46] #[100,115,115] (by rfl) _ (by simp[Act.eval]) _ _ (zkQ _ _) hsq ?_;rintro W5 ⟨D5,hKU⟩;have y0:=hKU _ _ _ HX.out (by decide);obtain⟨k0,k1,k2,f0,f1,f2⟩:=zac y0)))
 all_goals
  obtain⟨sv5,fv5,mk5,f5,fr5,F5,A5,L5,D⟩:=D5;have hret:=(D.start hb0 (by omega)).ret y0 (zuz _) hpos Hn2.out;clear hw2 hsq D y0 hKU HX z0 z1 z2 d0 d1 d2 c1;go_wp2;exact zuN (by simp[results,Tryz.results53,go_sem,k0,k1,k2]) rfl hret
end
section
variable {B n nw bt n' ga gl k:Nat}{w W:World}{mk fr:Nat -> Nat}{f:Nat -> Nat -> Bool}{F:Nat -> Nat -> Nat}{b:Bool}{M:GA}{v:Value}
attribute [local go_sem ↓] Go.wp_at_zero Go.wp_at_succ
def Cps(B:Nat)(w:World)(n nw bt:Nat)(mk:Nat->Nat)(f:Nat->Nat->Bool)(fr:Nat->Nat)(F:Nat->Nat->Nat)(r N:Nat)(M:GA)(W:World):Prop:=
 ∃(n' ga gl:Nat) (b:Bool),W.heap[r]?=some (.cells #[.bool b,.slice (some ⟨ga,0,none⟩) nw nw,.slice (some ⟨gl,0,none⟩) nw nw] 115 (0,0))/\n'<=n+N/\WrX B w n nw bt mk f fr F W n' ga gl b M
theorem WrX.putF{o:Nat}{cs:Array Value}
  (h:WrX B w n nw bt mk f fr F W n' ga gl b M) (hb:W.heap[k]?=some (.cells cs 115 (0,0))) (h0:w.heap.size<=k) (h1:0<w.heap.size):WrX B w n nw bt mk f fr F (W.setCell ⟨k,o,none⟩ v) n' ga gl b M:=by
 obtain⟨sv,fv,mk',f',fr',F',A,L,D⟩:=h;exact⟨sv,fv,mk',f',fr',F',A,L,D.putF hb h0 h1⟩
theorem WrX.opt
  (h:WrX B w n nw bt mk f fr F W n' ga gl b M):WrX B w n nw bt mk f fr F W n' ga gl true (GA.opt M):=by
 obtain⟨sv,fv,mk',f',fr',F',A,L,D⟩:=h;exact⟨sv,fv,mk',f',fr',F',A,L,D.opt⟩
theorem WrX.words{N:GA}
  (h:WrX B w n nw bt mk f fr F W n' ga gl b M) (hl:M=N):WrX B w n nw bt mk f fr F W n' ga gl b N:=by
 obtain⟨sv,fv,mk',f',fr',F',A,L,D⟩:=h;exact⟨sv,fv,mk',f',fr',F',A,L,D.words hl⟩
theorem WrX.kp
  (h:WrX B w n nw bt mk f fr F W n' ga gl b M):Kp B w W:=by
 obtain⟨sv,fv,mk',f',fr',F',A,L,D⟩:=h;exact D.kp
theorem WrX.put3{x y z:Value}
  (h:WrX B w n nw bt mk f fr F W n' ga gl b M) (hb:W.heap[k]?=some (.cells #[x,y,z] 115 (0,0))) (h0:w.heap.size<=k) (h1:0<w.heap.size) (v0 v1 v2:Value):
  WrX B w n nw bt mk f fr F (((W.setCell ⟨k,0,none⟩ v0).setCell ⟨k,1,none⟩ v1).setCell ⟨k,2,none⟩ v2) n' ga gl b M/\(((W.setCell ⟨k,0,none⟩ v0).setCell ⟨k,1,none⟩ v1).setCell ⟨k,2,none⟩ v2).heap[k]?=some (.cells #[v0,v1,v2] 115 (0,0)):=by
 have r1:=zuT _ _ 0 _ _ v0 hb;have r2:=zuT _ _ 1 _ _ v1 r1;have r3:=zuT _ _ 2 _ _ v2 r2;exact⟨((h.putF hb h0 h1).putF r1 h0 h1).putF r2 h0 h1,r3⟩
def zsU(B:Nat)(w:World)(n nw bt:Nat)(mk:Nat->Nat)(f:Nat->Nat->Bool)(fr:Nat->Nat)(F:Nat->Nat->Nat)(r N ga gl:Nat)(b:Bool)(p:Pt)(M:GA)(v:Value)(W:World):Prop:=
 ∃(n2 ha hl:Nat) (c:Bool),v=.agg #[.bool c,.slice (some ⟨ha,0,none⟩) nw nw,.slice (some ⟨hl,0,none⟩) nw nw]/\Hid (n2<=n+(N+(wPt p).toNat))/\(W.cell? ⟨r,0,none⟩=some (.bool b)/\W.cell? ⟨r,1,none⟩=some (.slice (some ⟨ga,0,none⟩) nw nw)/\W.cell? ⟨r,2,none⟩=some (.slice (some ⟨gl,0,none⟩) nw nw))/\Hid (W.heap[r]?=some (.cells #[.bool b,.slice (some ⟨ga,0,none⟩) nw nw,.slice (some ⟨gl,0,none⟩) nw nw] 115 (0,0)))/\
  Calls Tryz.prog 83 #[.pointer (some ⟨bt,0,none⟩),.agg #[.bool c,.slice (some ⟨ha,0,none⟩) nw nw,.slice (some ⟨hl,0,none⟩) nw nw],.agg #[.bool b,.slice (some ⟨ga,0,none⟩) nw nw,.slice (some ⟨gl,0,none⟩) nw nw]] W fun e W5=>e=.returned (.agg #[.bool (c&&b),.slice (some ⟨ha,0,none⟩) nw nw,.slice (some ⟨gl,0,none⟩) nw nw])/\WrX B w n nw bt mk f fr F W5 n2 ha gl (c&&b) (GA.seq (unf p) M)/\KU W W5
theorem zis{r N:Nat}{p:Pt}(ih:WrC p)(hT:zaT w v p)(hle:wPt p<=2000)
  (hX:WrX B w n nw bt mk f fr F W n' ga gl b M) (hr:W.heap[r]?=some (.cells #[.bool b,.slice (some ⟨ga,0,none⟩) nw nw,.slice (some ⟨gl,0,none⟩) nw nw] 115 (0,0))) (hn:n'<=n+N) (hN:n+(N+(wPt p).toNat)<=64*nw):
  Calls Tryz.prog 53 #[.pointer (some ⟨bt,0,none⟩),v] W.drew fun e W4=>∃v,e=.returned v/\zsU B w n nw bt mk f fr F r N ga gl b p M v W4:=by
 obtain⟨sv,fv,mk',f',fr',F',A,L,D⟩:=hX;have hb:Below W.heap.size W W.drew:=(Below.refl _ _).drew;refine(ih B n' nw bt sv fv mk' f' fr' F' W.drew v (D.tk.below hb) (zaT.keep (.of hb) p _ (zaT.keep D.kp.keepM p _ hT)) hle (by omega)).mono ?_;rintro e W4 ⟨n2,ha,hl,c,sv2,fv2,mk2,f2,fr2,F2,A',L',rfl,hk2,D2⟩;have hr4:=D2.kp.typ r _ _ hr (by decide) (by decide) (by decide);obtain⟨z0,z1,z2,-,-,-⟩:=zac hr4;exact⟨_,rfl,n2,ha,hl,c,rfl,by show n2<=_;omega,⟨z0,z1,z2⟩,hr4,zpy (D.pair hb D2).swap⟩
end
section
attribute [local go_sem ↓] Go.wp_at_zero Go.wp_at_succ
theorem zkN(p:Pt)(ih:WrC p)(m d e:Nat)(hme:e=m+d)(he:e<=255)(B n nw bt:Nat)(sv fv:Value)(mk:Nat->Nat)(f:Nat->Nat->Bool)(fr:Nat->Nat)(F:Nat->Nat->Nat)(w:World)(t:TypeId)(x:Value)(h:Trk B w n nw bt sv fv mk f fr F)(hT:zaT w (.iface t x) p)(hle:wPt p<=2000)(hn:n+e*(wPt p).toNat<=64*nw):
  Calls Tryz.prog 85 #[.pointer (some ⟨bt,0,none⟩),.agg #[.iface t x,.int .i64 m,.int .i64 e]] w fun r W=>WrR B w n nw bt mk f fr F (e*(wPt p).toNat) (unf (.rep p m e)) r W:=by
 have hpos:=zbz h.bru;have hbt:bt<w.heap.size:=(ztp.1 h.box).1;have hbb:=h.bb;have hnw:=h.nwl;obtain⟨W0,hW0⟩:∃W0,(w.alloc (.cells #[.iface t x,.int .i64 m,.int .i64 e] 172)).alloc (.cells #[.bool false,.slice none 0 0,.slice none 0 0] 115)=W0:=⟨_,rfl⟩;have hb0:Below w.heap.size w W0:=by rw[<-hW0];exact((Below.refl _ _).alloc (zuz _) _).alloc (by simp) _
 have x0:W0.heap[w.heap.size]?=some (.cells #[.iface t x,.int .i64 m,.int .i64 e] 172 (0,0)):=by rw[<-hW0];exact zao (zuR _ _)
 have x1:W0.heap[w.heap.size+1]?=some (.cells #[.bool false,.slice none 0 0,.slice none 0 0] 115 (0,0)):=by rw[<-hW0];exact zd3 _ _ _
 have hs0:=hb0.size;have h0:=h.below hb0;have hT0:=zaT.keep (.of hb0) p _ hT;have hba:=zkE nw bt true sv fv W0 h0.box hnw;have hne:((e:Int) == -1)=false:=by simp
 have hsub:(e:Int)-(m:Int)=(d:Int):=by omega
 have Hmul:Hid (∀a b:Nat,a+b<=e->a*(wPt p).toNat+b*(wPt p).toNat<=e*(wPt p).toNat):=fun a b hab=>by rw[<-zuv];exact zuH _ hab
 have Hme:Hid (e=m+d):=hme;have hd255:d<=255:=by omega
 have hm255:m<=255:=by omega
 clear hme
 go_enter Tryz.func85,Tryz.ntmps85
 go_wp2_with fail
 refine hba.mono ?_;rintro e1 W1 ⟨ga,gl,rfl,na,nl,hfr,hb1⟩;clear hba hW0;obtain⟨W2,hW2⟩:∃W2,W1.alloc (.cells #[.bool true,.slice (some ⟨ga,0,none⟩) nw nw,.slice (some ⟨gl,0,none⟩) nw nw] 115)=W2:=⟨_,rfl⟩;have hb2:Below W1.heap.size W1 W2:=by rw[<-hW2];exact(Below.refl _ _).alloc (zuz _) _
 have r2:W2.heap[W1.heap.size]?=some (.cells #[.bool true,.slice (some ⟨ga,0,none⟩) nw nw,.slice (some ⟨gl,0,none⟩) nw nw] 115 (0,0)):=by rw[<-hW2];exact zuR _ _
 have D0:=((WrD.bare h0 true na nl hfr hb1).below hb2).words (N:=zmF (unf p) 0) rfl;have hX:Cps B W0 n nw bt mk f fr F W1.heap.size (0*(wPt p).toNat) (zmF (unf p) 0) W2:=⟨n,ga,gl,true,r2,by omega,_,_,_,_,_,_,_,_,D0⟩;have hs1:=hb1.size;have y0:=D0.kp.typ _ _ _ x0 (by decide) (by decide) (by decide);obtain⟨c0,c1,c2,-,-,-⟩:=zac y0;clear D0 r2 hfr y0 hb1 hb2 na nl h h0 hT;have Hn:Hid (n+e*(wPt p).toNat<=64*nw):=hn;have hrW:W0.heap.size<=W1.heap.size:=hs1;have hp0:0<W0.heap.size:=by omega
 clear hn hs1;go_wp2;clear hW2 c0 c1 c2
 go_loopw [27] (fun i wr=>∃j:Nat,j<=d/\i=.int .i64 j/\Cps B W0 n nw bt mk f fr F W1.heap.size (j*(wPt p).toNat) (zmF (unf p) j) wr)
  (fun i _=>d-(intOf i).toNat)
 case atStart=>exact⟨0,zuL _,rfl,hX⟩
 case round=>
  obtain⟨j,hj,rfl,n',ga',gl',b,hr,hn',hX'⟩:=hrel
  by_cases hlt:j<d
  ·have Hj:=Hmul.out j 1 (by have:=Hme.out;omega);have hw:=zis ih hT0 hle hX' hr hn' (by have:=Hn.out;omega);have yk:=hX'.kp.typ _ _ _ x0 (by decide) (by decide) (by decide);have c0:wr.cell? ⟨w.heap.size,0,none⟩=some (.iface t x):=(zac yk).1;obtain⟨d0,d1,d2,-,-,-⟩:=zac hr;have hi0:(0:Int)<=(j:Int):=by omega
   have hi1:(j:Int)<(d:Int):=by omega
   have Hj2:Hid (j*(wPt p).toNat+(wPt p).toNat=(j+1)*(wPt p).toNat):=by show _=_;rw[zuv,Nat.one_mul]
   clear Hj hX hX' yk hr hn';go_wp2
   go_region_law ((first|(refine zfg (by rfl) 53 #[.tmp 30,.tmp 32] #[100,118] (by rfl) #[.pointer (some ⟨bt,0,none⟩),.iface t x] (by simp[Act.eval]) _ (zdE _ _) hw ?_;rintro _ W4 ⟨n2,ha,hl,c,rfl,Hn2,⟨z0,z1,z2⟩,HX,hsq⟩)|(refine zfI (by rfl) 83 #[.tmp 29,.tmp 33,.tmp 34] #[100,115,115] (by rfl) _ (by simp[Act.eval]) _ _ (zgg _ _) hsq ?_;rintro W5 ⟨D5,hKU⟩;have y0:=hKU _ _ _ HX.out (by decide);obtain⟨k0,k1,k2,f0,f1,f2⟩:=zac y0)))
   all_goals
    obtain⟨q5,q6⟩:=D5.put3 y0 hrW hp0 (.bool (c&&b)) (.slice (some ⟨ha,0,none⟩) nw nw) (.slice (some ⟨gl',0,none⟩) nw nw);clear hw hsq y0 hKU HX z0 z1 z2 d0 d1 d2 c0 D5 k0 k1 k2 f0 f1 f2;generalize ((W5.setCell ⟨W1.heap.size,0,none⟩ (.bool (c&&b))).setCell ⟨W1.heap.size,1,none⟩ (.slice (some ⟨ha,0,none⟩) nw nw)).setCell ⟨W1.heap.size,2,none⟩ (.slice (some ⟨gl',0,none⟩) nw nw)=W6 at *;obtain⟨k0,-,-,f0,-,-⟩:=zac q6;go_wp2
    go_roundw
    case rel=>exact⟨j+1,by omega,by go_num,n2,ha,gl',true,zuT _ _ 0 _ _ _ q6,by have:=Hn2.out;have:=Hj2.out;omega,((q5.putF q6 hrW hp0).opt).words rfl⟩
    case measure=>simp[intOf];omega
  ·have hjd:j=d:=by omega
   subst hjd;have yk:=hX'.kp.typ _ _ _ x0 (by decide) (by decide) (by decide);have c1:wr.cell? ⟨w.heap.size,1,none⟩=some (.int .i64 m):=(zac yk).2.1;have hX2:Cps B W0 n nw bt mk f fr F W1.heap.size (j*(wPt p).toNat) (zhI (unf p) (zmF (unf p) j) 0) wr:=⟨n',ga',gl',b,hr,hn',hX'.words rfl⟩;clear hX' hr hn' yk hX;go_wp2;clear c1
   go_loopw [40] (fun i wr=>∃k:Nat,k<=m/\i=.int .i64 k/\Cps B W0 n nw bt mk f fr F W1.heap.size ((j+k)*(wPt p).toNat) (zhI (unf p) (zmF (unf p) j) k) wr)
    (fun i _=>m-(intOf i).toNat)
   case atStart=>exact⟨0,zuL _,rfl,hX2⟩
   case round=>
    clear hX2;obtain⟨k,hk,rfl,n',ga',gl',b,hr,hn',hX'⟩:=hrel
    by_cases hlt:k<m
    ·have Hj:=Hmul.out (j+k) 1 (by have:=Hme.out;omega);have hw:=zis ih hT0 hle hX' hr hn' (by have:=Hn.out;omega);have yk:=hX'.kp.typ _ _ _ x0 (by decide) (by decide) (by decide);have c0:wr.cell? ⟨w.heap.size,0,none⟩=some (.iface t x):=(zac yk).1;obtain⟨d0,d1,d2,-,-,-⟩:=zac hr;have hi0:(0:Int)<=(k:Int):=by omega
     have hi1:(k:Int)<(m:Int):=by omega
     have Hj2:Hid ((j+k)*(wPt p).toNat+(wPt p).toNat=(j+(k+1))*(wPt p).toNat):=by show _=_;rw[<-Nat.add_assoc,zuv _ 1,Nat.one_mul]
     clear Hj hX' yk hr hn';go_wp2
     go_region_law ((first|(refine zfg (by rfl) 53 #[.tmp 43,.tmp 45] #[100,118] (by rfl) #[.pointer (some ⟨bt,0,none⟩),.iface t x] (by simp[Act.eval]) _ (zdE _ _) hw ?_;rintro _ W4 ⟨n2,ha,hl,c,rfl,Hn2,⟨z0,z1,z2⟩,HX,hsq⟩)|(refine zfI (by rfl) 83 #[.tmp 42,.tmp 46,.tmp 47] #[100,115,115] (by rfl) _ (by simp[Act.eval]) _ _ (zgg _ _) hsq ?_;rintro W5 ⟨D5,hKU⟩;have y0:=hKU _ _ _ HX.out (by decide);obtain⟨k0,k1,k2,f0,f1,f2⟩:=zac y0)))
     all_goals
      obtain⟨q5,q6⟩:=D5.put3 y0 hrW hp0 (.bool (c&&b)) (.slice (some ⟨ha,0,none⟩) nw nw) (.slice (some ⟨gl',0,none⟩) nw nw);clear hw hsq y0 hKU HX z0 z1 z2 d0 d1 d2 c0 D5 k0 k1 k2 f0 f1 f2;generalize ((W5.setCell ⟨W1.heap.size,0,none⟩ (.bool (c&&b))).setCell ⟨W1.heap.size,1,none⟩ (.slice (some ⟨ha,0,none⟩) nw nw)).setCell ⟨W1.heap.size,2,none⟩ (.slice (some ⟨gl',0,none⟩) nw nw)=W6 at *;go_wp2
      go_roundw
      case rel=>exact⟨k+1,by omega,by go_num,n2,ha,gl',c&&b,q6,by have:=Hn2.out;have:=Hj2.out;omega,q5.words rfl⟩
      case measure=>simp[intOf];omega
    ·have hkm:k=m:=by omega
     subst hkm;obtain⟨sv5,fv5,mk5,f5,fr5,F5,A5,L5,D⟩:=hX';have yk:=D.kp.typ _ _ _ x1 (by decide) (by decide) (by decide);obtain⟨k0,k1,k2,f0,f1,f2⟩:=zac yk;obtain⟨d0,d1,d2,-,-,-⟩:=zac hr;have hret:=((D.start hb0 (by omega)).words (N:=unf (.rep p (k:Int) (e:Int))) (by rw[Hme.out];exact zpk p k j)).ret (m:=e*(wPt p).toNat) yk (by omega) hpos (by rw[Hme.out,Nat.add_comm k j];exact hn');clear D yk hr;go_wp2;exact zuN (by simp[results,Tryz.results85,go_sem,k0,k1,k2]) rfl hret
end
section
attribute [local go_sem ↓] Go.wp_at_zero Go.wp_at_succ
theorem zkM(p:Pt)(ih:WrC p)(m e:Nat)(hme:e=m+1)(he:m<=255)(B n nw bt:Nat)(sv fv:Value)(mk:Nat->Nat)(f:Nat->Nat->Bool)(fr:Nat->Nat)(F:Nat->Nat->Nat)(w:World)(t:TypeId)(x:Value)(h:Trk B w n nw bt sv fv mk f fr F)(hT:zaT w (.iface t x) p)(hle:wPt p<=2000)(hn:n+e*(wPt p).toNat<=64*nw):
  Calls Tryz.prog 85 #[.pointer (some ⟨bt,0,none⟩),.agg #[.iface t x,.int .i64 m,.int .i64 (-1)]] w fun r W=>WrR B w n nw bt mk f fr F (e*(wPt p).toNat) (unf (.rep p m (-1))) r W:=by
 have hpos:=zbz h.bru;have hbt:bt<w.heap.size:=(ztp.1 h.box).1;have hbb:=h.bb;have hnw:=h.nwl;obtain⟨W0,hW0⟩:∃W0,(w.alloc (.cells #[.iface t x,.int .i64 m,.int .i64 (-1)] 172)).alloc (.cells #[.bool false,.slice none 0 0,.slice none 0 0] 115)=W0:=⟨_,rfl⟩;have hb0:Below w.heap.size w W0:=by rw[<-hW0];exact((Below.refl _ _).alloc (zuz _) _).alloc (by simp) _
 have x0:W0.heap[w.heap.size]?=some (.cells #[.iface t x,.int .i64 m,.int .i64 (-1)] 172 (0,0)):=by rw[<-hW0];exact zao (zuR _ _)
 have x1:W0.heap[w.heap.size+1]?=some (.cells #[.bool false,.slice none 0 0,.slice none 0 0] 115 (0,0)):=by rw[<-hW0];exact zd3 _ _ _
 have hs0:=hb0.size;have h0:=h.below hb0;have hT0:=zaT.keep (.of hb0) p _ hT;have hba:=zkE nw bt true sv fv W0 h0.box hnw;have Hmul:Hid (∀a b:Nat,a+b<=e->a*(wPt p).toNat+b*(wPt p).toNat<=e*(wPt p).toNat):=fun a b hab=>by rw[<-zuv];exact zuH _ hab
 have Hme:Hid (e=m+1):=hme;have hm255:m<=255:=by omega
 clear hme
 go_enter Tryz.func85,Tryz.ntmps85
 go_wp2_with fail
 refine hba.mono ?_;rintro e1 W1 ⟨ga,gl,rfl,na,nl,hfr,hb1⟩;clear hba hW0;obtain⟨W2,hW2⟩:∃W2,W1.alloc (.cells #[.bool true,.slice (some ⟨ga,0,none⟩) nw nw,.slice (some ⟨gl,0,none⟩) nw nw] 115)=W2:=⟨_,rfl⟩;have hb2:Below W1.heap.size W1 W2:=by rw[<-hW2];exact(Below.refl _ _).alloc (zuz _) _
 have r2:W2.heap[W1.heap.size]?=some (.cells #[.bool true,.slice (some ⟨ga,0,none⟩) nw nw,.slice (some ⟨gl,0,none⟩) nw nw] 115 (0,0)):=by rw[<-hW2];exact zuR _ _
 have D0:=(WrD.bare h0 true na nl hfr hb1).below hb2;have hs1:=hb1.size;have y0:=D0.kp.typ _ _ _ x0 (by decide) (by decide) (by decide);obtain⟨c0,c1,c2,-,-,-⟩:=zac y0;have Hn:Hid (n+e*(wPt p).toNat<=64*nw):=hn;have hrW:W0.heap.size<=W1.heap.size:=hs1;have hp0:0<W0.heap.size:=by omega
 have hb02:Below W0.heap.size W0 W2:=hb1.trans (hb2.mono hs1);have hone:=Hmul.out 1 0 (by have:=Hme.out;omega);have hc:=ih B n nw bt sv fv mk f fr F W2 (.iface t x) (h0.below hb02) (zaT.keep (.of hb02) p _ hT0) hle (by omega);clear hn hs1 D0 hfr y0 hb1 hb2 na nl h h0 hT
 go_wp2_with fail
 refine hc.mono ?_;rintro e3 W3 ⟨n1,ha,hl,c,sv3,fv3,mk3,f3,fr3,F3,A3,L3,rfl,hk3,D3⟩;clear hc hW2 c0 c1 c2;have r3:=D3.kp.typ _ _ _ r2 (by decide) (by decide) (by decide);have D3':=D3.start hb02 (by omega);obtain⟨k0,k1,k2,f0,f1,f2⟩:=zac r3;obtain⟨⟨sv4,fv4,mk4,f4,fr4,F4,A4,L4,q5⟩,q6⟩:=WrX.put3 ⟨_,_,_,_,_,_,_,_,D3'⟩ r3 hrW hp0 (.bool c) (.slice (some ⟨ha,0,none⟩) nw nw) (.slice (some ⟨hl,0,none⟩) nw nw);have hlk:=zrp q5;obtain⟨W4,hW4⟩:∃W4,((W3.setCell ⟨W1.heap.size,0,none⟩ (.bool c)).setCell ⟨W1.heap.size,1,none⟩ (.slice (some ⟨ha,0,none⟩) nw nw)).setCell ⟨W1.heap.size,2,none⟩ (.slice (some ⟨hl,0,none⟩) nw nw)=W4:=⟨_,rfl⟩;rw[hW4] at hlk q6 q5;have y4:=q5.kp.typ _ _ _ x0 (by decide) (by decide) (by decide);obtain⟨d0,d1,d2,-,-,-⟩:=zac q6;clear D3 D3' r3 r2 q5
 go_wp2_with fail
 refine hlk.mono ?_;rintro e5 W5 ⟨rfl,hX5,hKU⟩;clear hlk hW4 k0 k1 k2 f0 f1 f2 d0 d1 d2;have r5:=hKU _ _ _ q6 (by decide);have y5:=hKU _ _ _ y4 (by decide);obtain⟨k0,-,-,f0,-,-⟩:=zac r5;have hX6:=hX5.putF (o:=0) (v:=.bool true) r5 hrW hp0;have r6:=zuT _ _ 0 _ _ (.bool true) r5;have y6:=hX6.kp.typ _ _ _ x0 (by decide) (by decide) (by decide);obtain⟨-,c1,c2,-,-,-⟩:=zac y6;have hsub:(-1:Int)-(m:Int)=-((m:Int)+1):=by omega
 clear q6 y4 y5 hX5 hKU r5;go_wp2;generalize hW6:W5.setCell ⟨W1.heap.size,0,none⟩ (.bool true)=W6 at *;clear hW6 k0 f0 c1 c2
 go_loopw [27] (fun i wr=>i=.int .i64 0/\wr=W6) (fun _ _=>0)
 case atStart=>exact⟨rfl,rfl⟩
 case round=>
   obtain⟨rfl,rfl⟩:=hrel;have hneg:¬(0:Int) < -((m:Int)+1):=by omega
   have yk:=hX6.kp.typ _ _ _ x0 (by decide) (by decide) (by decide);have c1:wr.cell? ⟨w.heap.size,1,none⟩=some (.int .i64 m):=(zac yk).2.1;have hX2:Cps B W0 n nw bt mk f fr F W1.heap.size (1*(wPt p).toNat) (zhI (unf p) (GA.star (unf p)) 0) wr:=⟨n1,ha,hl,true,r6,by omega,hX6.words rfl⟩;clear yk;go_wp2;clear c1
   go_loopw [40] (fun i wr=>∃k:Nat,k<=m/\i=.int .i64 k/\Cps B W0 n nw bt mk f fr F W1.heap.size ((1+k)*(wPt p).toNat) (zhI (unf p) (GA.star (unf p)) k) wr)
    (fun i _=>m-(intOf i).toNat)
   case atStart=>exact⟨0,zuL _,rfl,hX2⟩
   case round=>
    clear hX2;obtain⟨k,hk,rfl,n',ga',gl',b,hr,hn',hX'⟩:=hrel
    by_cases hlt:k<m
    ·have Hj:=Hmul.out (1+k) 1 (by have:=Hme.out;omega);have hw:=zis ih hT0 hle hX' hr hn' (by have:=Hn.out;omega);have yk:=hX'.kp.typ _ _ _ x0 (by decide) (by decide) (by decide);have c0:wr.cell? ⟨w.heap.size,0,none⟩=some (.iface t x):=(zac yk).1;obtain⟨d0,d1,d2,-,-,-⟩:=zac hr;have hi0:(0:Int)<=(k:Int):=by omega
     have hi1:(k:Int)<(m:Int):=by omega
     have Hj2:Hid ((1+k)*(wPt p).toNat+(wPt p).toNat=(1+(k+1))*(wPt p).toNat):=by show _=_;rw[<-Nat.add_assoc,zuv _ 1,Nat.one_mul]
     clear Hj hX' yk hr hn';go_wp2
     go_region_law ((first|(refine zfg (by rfl) 53 #[.tmp 43,.tmp 45] #[100,118] (by rfl) #[.pointer (some ⟨bt,0,none⟩),.iface t x] (by simp[Act.eval]) _ (zdE _ _) hw ?_;rintro _ W4 ⟨n2,ha,hl,c,rfl,Hn2,⟨z0,z1,z2⟩,HX,hsq⟩)|(refine zfI (by rfl) 83 #[.tmp 42,.tmp 46,.tmp 47] #[100,115,115] (by rfl) _ (by simp[Act.eval]) _ _ (zgg _ _) hsq ?_;rintro W5 ⟨D5,hKU⟩;have y0:=hKU _ _ _ HX.out (by decide);obtain⟨k0,k1,k2,f0,f1,f2⟩:=zac y0)))
     all_goals
      obtain⟨q5,q6⟩:=D5.put3 y0 hrW hp0 (.bool (c&&b)) (.slice (some ⟨ha,0,none⟩) nw nw) (.slice (some ⟨gl',0,none⟩) nw nw);clear hw hsq y0 hKU HX z0 z1 z2 d0 d1 d2 c0 D5 k0 k1 k2 f0 f1 f2;generalize ((W5.setCell ⟨W1.heap.size,0,none⟩ (.bool (c&&b))).setCell ⟨W1.heap.size,1,none⟩ (.slice (some ⟨ha,0,none⟩) nw nw)).setCell ⟨W1.heap.size,2,none⟩ (.slice (some ⟨gl',0,none⟩) nw nw)=W6 at *;go_wp2
      go_roundw
      case rel=>exact⟨k+1,by omega,by go_num,n2,ha,gl',c&&b,q6,by have:=Hn2.out;have:=Hj2.out;omega,q5.words rfl⟩
      case measure=>simp[intOf];omega
    ·have hkm:k=m:=by omega
     subst hkm;obtain⟨sv5,fv5,mk5,f5,fr5,F5,A5,L5,D⟩:=hX';have yk:=D.kp.typ _ _ _ x1 (by decide) (by decide) (by decide);obtain⟨k0,k1,k2,f0,f1,f2⟩:=zac yk;obtain⟨d0,d1,d2,-,-,-⟩:=zac hr;have hret:=((D.start hb0 (by omega)).words (N:=unf (.rep p (k:Int) (-1))) (zpj p k)).ret (m:=e*(wPt p).toNat) yk (by omega) hpos (by rw[Hme.out,Nat.add_comm k 1];exact hn');clear D yk hr;go_wp2;exact zuN (by simp[results,Tryz.results85,go_sem,k0,k1,k2]) rfl hret
end
section
attribute [local go_sem ↓] Go.wp_at_zero Go.wp_at_succ
theorem WrR.wide{B:Nat}{w:World}{n nw bt:Nat}{mk:Nat->Nat}{f:Nat->Nat->Bool}{fr:Nat->Nat}{F:Nat->Nat->Nat}{k k':Nat}{M:GA}{e:Ending}{W:World}(h:WrR B w n nw bt mk f fr F k M e W)(hk:k<=k'):WrR B w n nw bt mk f fr F k' M e W:=by
 obtain⟨n',ga,gl,b,sv,fv,mk',f',fr',F',A,L,h1,h2,h3⟩:=h;exact⟨n',ga,gl,b,sv,fv,mk',f',fr',F',A,L,h1,by omega,h3⟩
theorem zmP(p:Pt)(ih:WrC p)(mn mx:Int)(hbd:zaY mn mx=true)(B n nw bt:Nat)(sv fv:Value)(mk:Nat->Nat)(f:Nat->Nat->Bool)(fr:Nat->Nat)(F:Nat->Nat->Nat)(w:World)(t:TypeId)(x:Value)(h:Trk B w n nw bt sv fv mk f fr F)(hT:zaT w (.iface t x) p)(hle:wPt (.rep p mn mx)<=2000)(hn:n+(wPt (.rep p mn mx)).toNat<=64*nw):
  Calls Tryz.prog 85 #[.pointer (some ⟨bt,0,none⟩),.agg #[.iface t x,.int .i64 mn,.int .i64 mx]] w fun r W=>WrR B w n nw bt mk f fr F (wPt (.rep p mn mx)).toNat (unf (.rep p mn mx)) r W:=by
 have hp1:=(zdP p _ hT).1;have hc:=zdC hbd;have e:wPt (.rep p mn mx)=capW (wPt p*za2 mn mx):=rfl;have hw:wPt (.rep p mn mx)=wPt p*za2 mn mx:=by
  rw[e] at hle ⊢;unfold capW at hle ⊢;split
  ·rfl
  ·rw[zuU (by assumption)] at hle;omega
 rw[hw] at hle hn ⊢;clear e hw;obtain⟨wb,hwb⟩:∃wb:Nat,wPt p=wb:=⟨(wPt p).toNat,by omega⟩;obtain⟨c,hcc⟩:∃c:Nat,za2 mn mx=c:=⟨(za2 mn mx).toNat,by omega⟩;have htn:(wPt p).toNat=wb:=by omega
 have hprod:wPt p*za2 mn mx=((c*wb:Nat):Int):=by rw[hwb,hcc,Int.mul_comm];simp
 rw[hprod] at hle hn ⊢;rw[ztB] at hn ⊢;have hple:wPt p<=2000:=by
  have h1:1*wb<=c*wb:=zuH _ (by omega);omega
 have hbd':=hbd;simp[zaY] at hbd';obtain⟨⟨h1,h2⟩,h3⟩:=hbd';obtain⟨m,rfl⟩:∃m:Nat,mn=m:=⟨mn.toNat,by omega⟩
 by_cases hx:mx=-1
 ·subst hx;have hcm:c=m+1:=by
   unfold za2 at hcc;rw[zuV rfl] at hcc;omega
  have:=zkM p ih m c hcm (by omega) B n nw bt sv fv mk f fr F w t x h hT hple (by rw[htn];exact hn);rw[htn] at this;exact this
 ·obtain⟨ee,rfl⟩:∃ee:Nat,mx=ee:=⟨mx.toNat,by omega⟩;have hce:ee<=c:=by
   unfold za2 at hcc;rw[zuU hx] at hcc;split at hcc<;>omega
  have hmul:ee*wb<=c*wb:=zuH _ hce;have:=zkN p ih m (ee-m) ee (by omega) (by omega) B n nw bt sv fv mk f fr F w t x h hT hple (by rw[htn];omega);rw[htn] at this;exact this.mono fun e W hR=>hR.wide hmul
theorem zp8(p:Pt)(mn mx:Int)(ih:WrC p):WrC (.rep p mn mx):=by
 intro B n nw bt sv fv mk f fr F w v h hT hle hn;obtain⟨lv,rfl,hl,hbd⟩:=hT;have hpos:=zbz h.bru;have hbt:bt<w.heap.size:=(ztp.1 h.box).1;have hbb:=h.bb;obtain⟨t,x,rfl⟩:=zck hl;obtain⟨W0,hW0⟩:∃W0,(w.alloc (.cells #[.bool false,.slice none 0 0,.slice none 0 0] 115)).alloc (.cells #[.iface t x,.int .i64 mn,.int .i64 mx] 172)=W0:=⟨_,rfl⟩;have hb0:Below w.heap.size w W0:=by rw[<-hW0];exact((Below.refl _ _).alloc (zuz _) _).alloc (by simp) _
 have x0:W0.heap[w.heap.size]?=some (.cells #[.bool false,.slice none 0 0,.slice none 0 0] 115 (0,0)):=by rw[<-hW0];exact zao (zuR _ _)
 have x1:W0.heap[w.heap.size+1]?=some (.cells #[.iface t x,.int .i64 mn,.int .i64 mx] 172 (0,0)):=by rw[<-hW0];exact zd3 _ _ _
 obtain⟨q0,q1,q2,-,-,-⟩:=zac x1;have hc:=zmP p ih mn mx hbd B n nw bt sv fv mk f fr F W0 t x (h.below hb0) (zaT.keep (.of hb0) p _ hl) hle hn;have a1:=znp;have a2:=zno;have a3:=znn;have a4:=zsX;clear hle hn hbd
 go_enter Tryz.func53,Tryz.ntmps53
 go_wp2_with fail
 refine hc.mono ?_;rintro e W ⟨n',ga,gl,b,sv',fv',mk',f',fr',F',A,L,rfl,hk,D⟩;have u0:=D.kp.typ _ _ _ x0 (by decide) (by decide) (by decide);obtain⟨k0,k1,k2,f0,f1,f2⟩:=zac u0;have hret:=(D.start hb0 (by omega)).ret u0 (zuz _) hpos hk;clear hc hW0 D hk;go_wp2;exact zuN (by simp[results,Tryz.results53,go_sem,k0,k1,k2]) rfl hret
theorem zd9:∀p:Pt,WrC p
 |.set g=>zqa g
 |.seq p q=>zp9 p q (zd9 p) (zd9 q)
 |.alt p q=>zp5 p q (zd9 p) (zd9 q)
 |.rep p mn mx=>zp8 p mn mx (zd9 p)
 |.grp p g=>zp6 p g (zd9 p)
end
theorem Trk.keepG{B:Nat}{w W:World}{n nw bt:Nat}{sv fv:Value}{mk:Nat->Nat}{f:Nat->Nat->Bool}{fr:Nat->Nat}{F:Nat->Nat->Nat}(h:Trk B w n nw bt sv fv mk f fr F)(hk:∀(k:Nat) (cs:Array Value) (t:TypeId),w.heap[k]?=some (.cells cs t (0,0))->t≠180->t≠111->t≠103->W.heap[k]?=some (.cells cs t (0,0)))(hf:∀p,p<n->W.heap[fr p]?=w.heap[fr p]?)(h0:W.heap[0]?=w.heap[0]?):Trk B W n nw bt sv fv mk f fr F:=
 ⟨hk _ _ _ h.box (by decide) (by decide) (by decide),zas h.so fun k cs e=>hk k cs _ e (by decide) (by decide) (by decide),zas h.fo fun k cs e=>hk k cs _ e (by decide) (by decide) (by decide),⟨fun p hp=>⟨(hf p hp).trans (h.fol.rows p hp).row,(h.fol.rows p hp).lt⟩,h.fol.inj⟩,fun p hp=>hk _ _ _ (h.mks p hp) (by decide) (by decide) (by decide),h.n64,h.nwl,h.bru.keep h0,h.bb,h.b0⟩
structure NsI(w W:World)(s bt nw gs gl gf wt:Nat)(bs:List BrG)(n:Nat)(sv fv:Value)(mk:Nat->Nat)(f:Nat->Nat->Bool)(fr:Nat->Nat)(F:Nat->Nat->Nat)(φ:Nat->Nat->Nat)(A0 A1:Nat->Nat)(t0 e0 t1 e1:Int)(tg fn:Nat->Int):Prop where
 box:W.heap[s]?=some (.cells (scC bt nw gs t0 e0 gl t1 e1 gf wt) 111 (0,0))
 tk:Trk w.heap.size W n nw bt sv fv mk f fr F
 nm:Nam bs n f F φ
 p0:zaB W nw gs A0
 o0:OpnB bs φ true A0
 p1:zaB W nw gl A1
 o1:OpnB bs φ false A1
 l0:zbF (EmpR bs true false) t0
 m0:zbF (EmpR bs true true) e0
 l1:zbF (EmpR bs false false) t1
 m1:zbF (EmpR bs false true) e1
 row:W.heap[gf]?=some (.cells (zbR wt tg fn) 103 (0,0))
 gt:FndG bs φ false tg
 gn:FndG bs φ true fn
 up:∀p,n<=p->tg p=100/\fn p=100
 top:∀p,tg p<=100/\fn p<=100
 ne:gs≠gl
 f0:∀p,p<n->fr p≠gs
 f1:∀p,p<n->fr p≠gl
 bel:Below w.heap.size w W
 hs:w.heap.size<=s
 h0:w.heap.size<=gs
 h1:w.heap.size<=gl
 hf:w.heap.size<=gf
section
variable {w W Wd W4 W5:World} {s bt nw gs gl gf wt:Nat} {bs:List BrG} {n:Nat} {sv fv:Value} {mk:Nat->Nat} {f:Nat->Nat->Bool} {fr:Nat->Nat} {F:Nat->Nat->Nat} {φ:Nat->Nat->Nat} {A0 A1:Nat->Nat} {t0 e0 t1 e1:Int} {tg fn:Nat->Int}
theorem NsI.kept(h:NsI w W s bt nw gs gl gf wt bs n sv fv mk f fr F φ A0 A1 t0 e0 t1 e1 tg fn)(hk:Kp w.heap.size W W4):W4.heap[s]?=some (.cells (scC bt nw gs t0 e0 gl t1 e1 gf wt) 111 (0,0))/\zaB W4 nw gs A0/\zaB W4 nw gl A1/\W4.heap[gf]?=some (.cells (zbR wt tg fn) 103 (0,0)):=
 ⟨hk.typ _ _ _ h.box (by decide) (by decide) (by decide),hk.pos h.p0,hk.pos h.p1,hk.typ _ _ _ h.row (by decide) (by decide) (by decide)⟩
theorem NsI.step(h:NsI w W s bt nw gs gl gf wt bs n sv fv mk f fr F φ A0 A1 t0 e0 t1 e1 tg fn)(hb:Below W.heap.size W Wd){n' ga gz:Nat}{b:Bool}{sv' fv':Value}{mk':Nat->Nat}{f':Nat->Nat->Bool}{fr':Nat->Nat}{F':Nat->Nat->Nat}{A L:Nat->Nat}{br:BrG}
  (D:WrD w.heap.size Wd n nw bt mk f fr F W4 n' ga gz b br.ga sv' fv' mk' f' fr' F' A L) {e:Ending} (a:AdmR W4 s bt nw gs t0 e0 gl t1 e1 gf wt A0 A1 A L tg fn br.bol b (fdV br false) (fdV br true) e W5) (hr:br.rule<=99):
  ∃φ' A0' A1' t0' e0' t1' e1' tg' fn',NsI w W5 s bt nw gs gl gf wt (bs++[br]) n' sv' fv' mk' f' fr' F' φ' A0' A1' t0' e0' t1' e1' tg' fn':=by
 obtain⟨-,a1,a2,a3,a4,a5⟩:=a;obtain⟨ψ,g⟩:=D.good;have hk4:Kp w.heap.size W W4:=(Kp.of_below h.bel.size hb).trans D.kp;obtain⟨k1,k2,k3,k4⟩:=h.kept hk4;have hW:=h.bel.size;have hs4:=hk4.size;have hem:b=br.ga.emp:=by rw[ztu];exact g.em
 have hψ:∀i,i<br.ga.n->n<=ψ i/\ψ i<n':=fun i hi=>(g.dm _).2 ⟨i,hi,rfl⟩
 have hnle:=D.le;have keep:∀(k:Nat) (cs:Array Value) (t:TypeId),W4.heap[k]?=some (.cells cs t (0,0))->t≠180->t≠111->t≠103->W5.heap[k]?=some (.cells cs t (0,0)):=fun k cs t e h1 h2 h3=>by
  refine(a5.same k (ztp.1 e).1 (fun hh=>?_)).trans e;rcases hh with rfl|rfl|rfl|rfl
  ·rw[k1] at e;exact h2 (zak e).symm
  ·rw[k2.row] at e;exact h1 (zak e).symm
  ·rw[k3.row] at e;exact h1 (zak e).symm
  ·rw[k4] at e;exact h3 (zak e).symm
 have hfr:∀p,p<n'->fr' p≠gs/\fr' p≠gl:=fun p hp=>by
  by_cases hpn:p<n
  ·rw[(D.old p hpn).2.2.1];exact⟨h.f0 p hpn,h.f1 p hpn⟩
  ·have q1:=D.new p (by omega) hp;have q2:=h.p0.glt;have q3:=h.p1.glt;have q4:=hb.size;exact⟨by omega,by omega⟩
 have hfk:∀p,p<n'->W5.heap[fr' p]?=W4.heap[fr' p]?:=fun p hp=>by
  have q:=(D.tk.fol.rows p hp).row;refine a5.same _ (D.tk.fol.rows p hp).glt (fun hh=>?_);rcases hh with hh|hh|hh|hh
  ·rw[hh,k1] at q;exact absurd (zak q) (by decide)
  ·exact(hfr p hp).1 hh
  ·exact(hfr p hp).2 hh
  ·rw[hh,k4] at q;exact absurd (zak q) (by decide)
 have hpos:0<w.heap.size:=h.tk.b0;have q1:=h.hs;have q2:=h.h0;have q3:=h.h1;have q4:=h.hf;have h00:W5.heap[0]?=W4.heap[0]?:=a5.same 0 (by omega) (by omega);have hA:∀q,zaA A q=true↔∃j,br.ga.fst j=true/\q=ψ j:=fun q=>g.fs q
 have hL:∀q,zaA L q=true↔∃j,br.ga.lst j=true/\q=ψ j:=fun q=>g.ls q
 have hbel:Below w.heap.size w W5:=by
  refine⟨?_,?_,?_,?_,fun k hk=>?_⟩
  ·exact a5.os.trans (hk4.os.trans h.bel.os)
  ·exact a5.tape.trans (hk4.tape.trans h.bel.tape)
  ·exact a5.output.trans (hk4.output.trans h.bel.output)
  ·exact zuA hW (zuA hs4 a5.size)
  ·exact(a5.same k (by omega) (by omega)).trans ((hk4.low k hk).trans (h.bel.block k hk))
 have hup:∀p,n<=p->p<n'->tg p=100:=fun p hp _=>(h.up p hp).1
 have hup2:∀p,n<=p->p<n'->fn p=100:=fun p hp _=>(h.up p hp).2
 refine⟨extφ bs.length φ ψ,_,_,_,_,_,_,_,_,⟨a1,D.tk.keepG keep hfk h00,h.nm.snoc hnle (fun p hp=>(D.old p hp).2.1) (fun p hp=>(D.old p hp).2.2.2) g,a2,h.o0.take (by simp) hA,a3,?_,?_,?_,?_,?_,a4,h.gt.snoc h.nm hψ g.inj hL hup (fun _=>rfl),h.gn.snoc h.nm hψ g.inj hL hup2 (fun _=>rfl),fun p hp=>?_,fun p=>?_,h.ne,fun p hp=>(hfr p hp).1,fun p hp=>(hfr p hp).2,hbel,q1,q2,q3,q4⟩⟩
 ·cases hbo:br.bol
  ·rw[zuU (by simp)];exact h.o1.take (by rw[hbo];rfl) hA
  ·rw[zuV rfl];exact h.o1.skip (by rw[hbo];rfl)
 ·cases hb2:b
  ·rw[zuU (by simp)];exact EmpL.skip h.l0 (by rw[<-hem,hb2];simp)
  ·rw[zuV rfl];exact EmpL.take h.l0 (by simp) (by rw[<-hem,hb2]) hr
 ·cases hb2:b
  ·rw[zuU (by simp)];exact EmpL.skip h.m0 (by rw[<-hem,hb2];simp)
  ·rw[zuV rfl];exact EmpL.take h.m0 (by simp) (by rw[<-hem,hb2]) hr
 ·by_cases hq:(b && !br.bol)=true
  ·rw[zuV hq];simp only[ztt,Bool.not_eq_true'] at hq;exact EmpL.take h.l1 (by rw[hq.2];rfl) (by rw[<-hem,hq.1]) hr
  ·rw[zuU hq];exact EmpL.skip h.l1 (by rw[<-hem];simpa [Bool.and_comm] using hq)
 ·by_cases hq:(b && !br.bol)=true
  ·rw[zuV hq];simp only[ztt,Bool.not_eq_true'] at hq;exact EmpL.take h.m1 (by rw[hq.2];rfl) (by rw[<-hem,hq.1]) hr
  ·rw[zuU hq];exact EmpL.skip h.m1 (by rw[<-hem];simpa [Bool.and_comm] using hq)
 ·have hnb:¬zaA L p=true:=fun hh=>by
   obtain⟨j,j1,j2⟩:=(hL p).1 hh;have:=hψ j (br.ga.lstB j j1);omega
  have:=h.up p (by omega);exact⟨by rw[zuU hnb];exact this.1,by rw[zuU hnb];exact this.2⟩
 ·have:=h.top p;refine⟨?_,?_⟩
  ·split
   ·exact zon hr
   ·exact this.1
  ·split
   ·exact zon hr
   ·exact this.2
theorem NsI.below(h:NsI w W s bt nw gs gl gf wt bs n sv fv mk f fr F φ A0 A1 t0 e0 t1 e1 tg fn)(hb:Below W.heap.size W Wd):NsI w Wd s bt nw gs gl gf wt bs n sv fv mk f fr F φ A0 A1 t0 e0 t1 e1 tg fn:=
 ⟨zab h.box hb,h.tk.below hb,h.nm,h.p0.below hb,h.o0,h.p1.below hb,h.o1,h.l0,h.m0,h.l1,h.m1,zab h.row hb,h.gt,h.gn,h.up,h.top,h.ne,h.f0,h.f1,h.bel.trans (hb.mono h.bel.size),h.hs,h.h0,h.h1,h.hf⟩
end
end Go.Proofs.YthddplbodacjgaaGreatDoor
