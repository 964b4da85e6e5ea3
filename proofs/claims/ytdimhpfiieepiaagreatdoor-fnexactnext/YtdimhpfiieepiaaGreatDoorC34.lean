import Derived.Test.YtdimhpfiieepiaaGreatDoorC33
import Derived.Deep.RegionHeld3
namespace Go.Proofs.YtdimhpfiieepiaaGreatDoor
open Proofs.Tryz
open Option renaming none->za,some->zb
open Value renaming slice->zc,int->ze,agg->zg,pointer->zi
open Obj renaming cells->zd
open Go renaming World->zf,Value->zh,Calls->zl,TypeId->zm
open RowKit renaming Hid->zj,Below->zk
set_option maxHeartbeats 4000000
set_option maxRecDepth 100000
open Go.RowKit
section
attribute [local go_sem ↓] wp_at_zero wp_at_succ
theorem ztq(x:zh)(w:zf):(Instr.typeAssert (.iface 297 x) 184 297 true).run prog w=.ok (.tuple #[x,.bool true]) w:=by kernel_rfl
theorem znE(x:zh)(w:zf):(Instr.typeAssert (.iface 256 x) 184 297 true).run prog w=.ok (.tuple #[zg #[zi za],.bool false]) w:=by kernel_rfl
theorem ztp(x:zh)(w:zf):(Instr.typeAssert (.iface 256 x) 184 256 true).run prog w=.ok (.tuple #[x,.bool true]) w:=by kernel_rfl
theorem znw(x:zh)(w:zf):(Instr.typeAssert (.iface 258 x) 184 297 true).run prog w=.ok (.tuple #[zg #[zi za],.bool false]) w:=by kernel_rfl
theorem znv(x:zh)(w:zf):(Instr.typeAssert (.iface 258 x) 184 256 true).run prog w=.ok (.tuple #[zg #[.nilIface,.nilIface],.bool false]) w:=by kernel_rfl
theorem ztm(x:zh)(w:zf):(Instr.typeAssert (.iface 258 x) 184 258 true).run prog w=.ok (.tuple #[x,.bool true]) w:=by kernel_rfl
theorem znD(x:zh)(w:zf):(Instr.typeAssert (.iface 261 x) 184 297 true).run prog w=.ok (.tuple #[zg #[zi za],.bool false]) w:=by kernel_rfl
theorem znC(x:zh)(w:zf):(Instr.typeAssert (.iface 261 x) 184 256 true).run prog w=.ok (.tuple #[zg #[.nilIface,.nilIface],.bool false]) w:=by kernel_rfl
theorem znB(x:zh)(w:zf):(Instr.typeAssert (.iface 261 x) 184 258 true).run prog w=.ok (.tuple #[zg #[.nilIface,.nilIface],.bool false]) w:=by kernel_rfl
theorem zto(x:zh)(w:zf):(Instr.typeAssert (.iface 261 x) 184 261 true).run prog w=.ok (.tuple #[x,.bool true]) w:=by kernel_rfl
theorem znA(x:zh)(w:zf):(Instr.typeAssert (.iface 264 x) 184 297 true).run prog w=.ok (.tuple #[zg #[zi za],.bool false]) w:=by kernel_rfl
theorem znz(x:zh)(w:zf):(Instr.typeAssert (.iface 264 x) 184 256 true).run prog w=.ok (.tuple #[zg #[.nilIface,.nilIface],.bool false]) w:=by kernel_rfl
theorem znx(x:zh)(w:zf):(Instr.typeAssert (.iface 264 x) 184 258 true).run prog w=.ok (.tuple #[zg #[.nilIface,.nilIface],.bool false]) w:=by kernel_rfl
theorem zny(x:zh)(w:zf):(Instr.typeAssert (.iface 264 x) 184 261 true).run prog w=.ok (.tuple #[zg #[.nilIface,ze .i64 0,ze .i64 0],.bool false]) w:=by kernel_rfl
theorem ztn(x:zh)(w:zf):(Instr.typeAssert (.iface 264 x) 184 264 true).run prog w=.ok (.tuple #[x,.bool true]) w:=by kernel_rfl
theorem Fe(w:zf)(a b:Obj):((w.alloc a).alloc b).heap[w.heap.size+1]?=zb b:=by
 have:=aL (w.alloc a) b
 simpa using this
theorem zqw(g:Nat->Bool):qk (.set g):=by
 intro B n nw bt sv fv mk f fr F w v h hT hle hn;obtain⟨mg,rfl,hm⟩:=hT;have gX:=qa h.dR;have jN:bt<w.heap.size:=(ap.1 h.box).1;have cX:=h.bb;have jO:n<64*nw:=by have:(aF (.set g)).toNat=1:=rfl;omega
 obtain⟨W0,ah⟩:∃W0,(w.alloc (zd #[.bool false,zc za 0 0,zc za 0 0] 226)).alloc (zd #[zi (zb ⟨mg,0,za⟩)] 297)=W0:=⟨_,rfl⟩;have ae:zk w.heap.size w W0:=by rw[<-ah];exact(au).alloc (by simp) _
 have x0:W0.heap[w.heap.size]?=zb (zd #[.bool false,zc za 0 0,zc za 0 0] 226 (0,0)):=by rw[<-ah];exact cQ (aL _ _)
 have x1:W0.heap[w.heap.size+1]?=zb (zd #[zi (zb ⟨mg,0,za⟩)] 297 (0,0)):=by rw[<-ah];exact Fe _ _ _
 have q0:W0.cell? ⟨w.heap.size+1,0,za⟩=zb (zi (zb ⟨mg,0,za⟩)):=(aO _ _ _ _ _ _ x1:W0.cell? ⟨w.heap.size+1,0,za⟩=_);have hc:=zlu B n nw bt mg sv fv mk f fr F g W0 (h.below ae) ((ae.block mg (ap.1 hm).1).trans hm) jO;have a1:=ztq
 go_enter func163,ntmps163
 go_wp2_with fail
 refine hc.mono ?_;rintro e W ⟨n',ga,gl,b,rY,mL,mk',f',fr',F',A,L,rfl,hk,D⟩;have u0:=D.kp.eV _ _ _ x0 (by decide) (by decide) (by decide);obtain⟨k0,k1,k2,f0,f1,f2⟩:=bW u0;clear hc ah;go_wp2;refine bD (v:=zg #[.bool b,zc (zb ⟨ga,0,za⟩) nw nw,zc (zb ⟨gl,0,za⟩) nw nw]) (by simp[results,results163,go_sem,k0,k1,k2]) rfl ((D.start ae (by omega)).ret u0 (ai _) gX hk)
theorem zqt(p:Pt)(gi:Int)(ih:qk p):qk (.aT p gi):=by
 intro B n nw bt sv fv mk f fr F w v h hT hle hn;obtain⟨lv,rfl,hl⟩:=hT;have gX:=qa h.dR;have jN:bt<w.heap.size:=(ap.1 h.box).1;have cX:=h.bb;have zyv:aF p<=2000:=hle;have jO:n+(aF p).toNat<=64*nw:=hn;obtain⟨t,x,rfl⟩:=ji hl;obtain⟨W0,ah⟩:∃W0,(w.alloc (zd #[.bool false,zc za 0 0,zc za 0 0] 226)).alloc (zd #[.iface t x,ze .i64 gi] 264)=W0:=⟨_,rfl⟩;have ae:zk w.heap.size w W0:=by rw[<-ah];exact(au).alloc (by simp) _
 have x0:W0.heap[w.heap.size]?=zb (zd #[.bool false,zc za 0 0,zc za 0 0] 226 (0,0)):=by rw[<-ah];exact cQ (aL _ _)
 have x1:W0.heap[w.heap.size+1]?=zb (zd #[.iface t x,ze .i64 gi] 264 (0,0)):=by rw[<-ah];exact Fe _ _ _
 have q0:W0.cell? ⟨w.heap.size+1,0,za⟩=zb (.iface t x):=(aO _ _ _ _ _ _ x1:W0.cell? ⟨w.heap.size+1,0,za⟩=_);have hc:=ih B n nw bt sv fv mk f fr F W0 (.iface t x) (h.below ae) (aR.keep (.of ae) p _ hl) zyv jO;have a1:=znA;have a2:=znz;have a3:=znx;have a4:=zny;have a5:=ztn
 go_enter func163,ntmps163
 go_wp2_with fail
 refine hc.mono ?_;rintro e W ⟨n',ga,gl,b,rY,mL,mk',f',fr',F',A,L,rfl,hk,D⟩;have u0:=D.kp.eV _ _ _ x0 (by decide) (by decide) (by decide);obtain⟨k0,k1,k2,f0,f1,f2⟩:=bW u0;clear hc ah;go_wp2;refine bD (v:=zg #[.bool b,zc (zb ⟨ga,0,za⟩) nw nw,zc (zb ⟨gl,0,za⟩) nw nw]) (by simp[results,results163,go_sem,k0,k1,k2]) rfl ((D.start ae (by omega)).ret u0 (ai _) gX hk)
theorem zqv(p q:Pt)(KY:qk p)(KZ:qk q):qk (.seq p q):=by
 intro B n nw bt sv fv mk f fr F w v h hT hle hn;obtain⟨lv,rv,rfl,hl,hr⟩:=hT;have gX:=qa h.dR;have jN:bt<w.heap.size:=(ap.1 h.box).1;have cX:=h.bb;have fD:=(iS p _ hl).1;have qA:=(iS q _ hr).1;have GV:aF (.seq p q)=aF p+aF q:=by
  have e:aF (.seq p q)=cJ (aF p+aF q):=rfl;rw[e]at hle ⊢;unfold cJ at hle ⊢;split
  ·rfl
  ·rw[aq (by assumption)]at hle;omega
 have QJ:zj ((aF (.seq p q)).toNat=(aF p).toNat+(aF q).toNat):=by show _=_;omega
 have jc:aF p<=2000:=by omega
 have nY:aF q<=2000:=by omega
 have xw:n+(aF p).toNat<=64*nw:=by omega
 have KA:∀n',n'<=n+(aF p).toNat->n'+(aF q).toNat<=64*nw:=λn' hk=>by omega
 clear GV hle hn;obtain⟨t,x,rfl⟩:=ji hl;obtain⟨t2,x2,rfl⟩:=ji hr;obtain⟨W0,ah⟩:∃W0,(w.alloc (zd #[.bool false,zc za 0 0,zc za 0 0] 226)).alloc (zd #[.iface t x,.iface t2 x2] 256)=W0:=⟨_,rfl⟩;have ae:zk w.heap.size w W0:=by rw[<-ah];exact(au).alloc (by simp) _
 have x0:W0.heap[w.heap.size]?=zb (zd #[.bool false,zc za 0 0,zc za 0 0] 226 (0,0)):=by rw[<-ah];exact cQ (aL _ _)
 have x1:W0.heap[w.heap.size+1]?=zb (zd #[.iface t x,.iface t2 x2] 256 (0,0)):=by rw[<-ah];exact Fe _ _ _
 have q0:W0.cell? ⟨w.heap.size+1,0,za⟩=zb (.iface t x):=(aO _ _ _ _ _ _ x1:W0.cell? ⟨w.heap.size+1,0,za⟩=_);have hc:=KY B n nw bt sv fv mk f fr F W0 (.iface t x) (h.below ae) (aR.keep (.of ae) p _ hl) jc xw;have a1:=znE;have a2:=ztp
 go_enter func163,ntmps163
 go_wp2_with fail
 refine hc.mono ?_;rintro e W2 ⟨n1,ga,gl,b,rY,mL,mk',f',fr',F',A,L,rfl,cM,D1⟩;clear hc ah q0 a1 a2;have u0:=D1.kp.eV _ _ _ x0 (by decide) (by decide) (by decide);have u1:=D1.kp.eV _ _ _ x1 (by decide) (by decide) (by decide);obtain⟨W3,ff⟩:∃W3,W2.alloc (zd #[.bool b,zc (zb ⟨ga,0,za⟩) nw nw,zc (zb ⟨gl,0,za⟩) nw nw] 226)=W3:=⟨_,rfl⟩;have ay:zk W2.heap.size W2 W3:=by rw[<-ff];exact au
 have v0:W3.heap[w.heap.size]?=_:=(ay.block _ (ap.1 u0).1).trans u0;have v1:W3.heap[w.heap.size+1]?=_:=(ay.block _ (ap.1 u1).1).trans u1;have v2:W3.heap[W2.heap.size]?=zb (zd #[.bool b,zc (zb ⟨ga,0,za⟩) nw nw,zc (zb ⟨gl,0,za⟩) nw nw] 226 (0,0)):=by rw[<-ff];exact aL _ _
 have c1:W3.cell? ⟨w.heap.size+1,1,za⟩=zb (.iface t2 x2):=(aO _ _ _ _ _ _ v1:W3.cell? ⟨w.heap.size+1,1,za⟩=_);obtain⟨d0,d1,d2,-,-,-⟩:=bW v2;have Aw:zk W2.heap.size W2 W3.drew:=ay.drew;have dx:=KZ B n1 nw bt rY mL mk' f' fr' F' W3.drew (.iface t2 x2) (D1.tk.below Aw) (aR.keep (.of Aw) q _ (aR.keep D1.kp.K1 q _ (aR.keep (.of ae) q _ hr))) nY (KA n1 cM);have gz:zl prog 163 #[zi (zb ⟨bt,0,za⟩),.iface t2 x2] W3.drew λe W=>∃v,e=.returned v/\∃(n2 ha hl:Nat) (c:Bool),v=zg #[.bool c,zc (zb ⟨ha,0,za⟩) nw nw,zc (zb ⟨hl,0,za⟩) nw nw]/\zj (n2<=n+(aF (.seq p q)).toNat)/\(W.cell? ⟨W2.heap.size,0,za⟩=zb (.bool b)/\W.cell? ⟨W2.heap.size,1,za⟩=zb (zc (zb ⟨ga,0,za⟩) nw nw)/\W.cell? ⟨W2.heap.size,2,za⟩=zb (zc (zb ⟨gl,0,za⟩) nw nw))/\zj (W.heap[w.heap.size]?=zb (zd #[.bool false,zc za 0 0,zc za 0 0] 226 (0,0)))/\
   zl prog 187 #[zi (zb ⟨bt,0,za⟩),zg #[.bool b,zc (zb ⟨ga,0,za⟩) nw nw,zc (zb ⟨gl,0,za⟩) nw nw],zg #[.bool c,zc (zb ⟨ha,0,za⟩) nw nw,zc (zb ⟨hl,0,za⟩) nw nw]] W λe W5=>e=.returned (zg #[.bool (b&&c),zc (zb ⟨ga,0,za⟩) nw nw,zc (zb ⟨hl,0,za⟩) nw nw])/\jZ B W0 n nw bt mk f fr F W5 n2 ga hl (b&&c) (bY (.seq p q) n)/\KU W W5:=by
  refine dx.mono ?_;rintro e W ⟨n2,ha,hl,c,CT,oR,Le,f2,Gk,F2,A',L',rfl,iA,D2⟩;refine⟨_,rfl,n2,ha,hl,c,rfl,?_,?_,D2.kp.eV _ _ _ v0 (by decide) (by decide) (by decide),by obtain rfl:n1=n+ez p:=D1.DN (lN p n) (by omega);exact zp7 (D1.pair Aw D2)⟩
  ·show n2<=_;rw[QJ.out];omega
  ·obtain⟨z0,z1,z2,-,-,-⟩:=bW (D2.kp.eV _ _ _ v2 (by decide) (by decide) (by decide));exact⟨z0,z1,z2⟩
 clear dx v1 v2 v0 u0 u1 x1 KA KY KZ D1 ay Aw h;go_wp2;clear ff
 go_region_law ((first|(refine A9 (by rfl) 163 #[.tmp 29,.tmp 31] #[224,184] (by rfl) #[zi (zb ⟨bt,0,za⟩),.iface t2 x2] (by simp[Act.eval]) _ (LO _ _) gz ?_;rintro _ W4 ⟨n2,ha,hl,c,rfl,fQ,⟨z0,z1,z2⟩,HX,mZ⟩)|(refine Dd (by rfl) 187 #[.tmp 27,.tmp 28,.tmp 32] #[224,226,226] (by rfl) _ (by simp[Act.eval]) _ _ (Pp _ _) mZ ?_;rintro W5 ⟨D5,oU⟩;have y0:=oU _ _ _ HX.out (by decide);obtain⟨k0,k1,k2,f0,f1,f2⟩:=bW y0)))
 all_goals
  obtain⟨UG,RG,Uk,f5,RF,F5,A5,L5,D⟩:=D5;have AR:=(D.start ae (by omega)).ret y0 (ai _) gX fQ.out;clear gz mZ D y0 oU HX z0 z1 z2 d0 d1 d2 c1;go_wp2;exact bD (by simp[results,results163,go_sem,k0,k1,k2]) rfl AR
theorem zqs(p q:Pt)(KY:qk p)(KZ:qk q):qk (.aQ p q):=by
 intro B n nw bt sv fv mk f fr F w v h hT hle hn;obtain⟨lv,rv,rfl,hl,hr⟩:=hT;have gX:=qa h.dR;have jN:bt<w.heap.size:=(ap.1 h.box).1;have cX:=h.bb;have fD:=(iS p _ hl).1;have qA:=(iS q _ hr).1;have GV:aF (.aQ p q)=aF p+aF q:=by
  have e:aF (.aQ p q)=cJ (aF p+aF q):=rfl;rw[e]at hle ⊢;unfold cJ at hle ⊢;split
  ·rfl
  ·rw[aq (by assumption)]at hle;omega
 have QJ:zj ((aF (.aQ p q)).toNat=(aF p).toNat+(aF q).toNat):=by show _=_;omega
 have jc:aF p<=2000:=by omega
 have nY:aF q<=2000:=by omega
 have xw:n+(aF p).toNat<=64*nw:=by omega
 have KA:∀n',n'<=n+(aF p).toNat->n'+(aF q).toNat<=64*nw:=λn' hk=>by omega
 clear GV hle hn;obtain⟨t,x,rfl⟩:=ji hl;obtain⟨t2,x2,rfl⟩:=ji hr;obtain⟨W0,ah⟩:∃W0,(w.alloc (zd #[.bool false,zc za 0 0,zc za 0 0] 226)).alloc (zd #[.iface t x,.iface t2 x2] 258)=W0:=⟨_,rfl⟩;have ae:zk w.heap.size w W0:=by rw[<-ah];exact(au).alloc (by simp) _
 have x0:W0.heap[w.heap.size]?=zb (zd #[.bool false,zc za 0 0,zc za 0 0] 226 (0,0)):=by rw[<-ah];exact cQ (aL _ _)
 have x1:W0.heap[w.heap.size+1]?=zb (zd #[.iface t x,.iface t2 x2] 258 (0,0)):=by rw[<-ah];exact Fe _ _ _
 have q0:W0.cell? ⟨w.heap.size+1,0,za⟩=zb (.iface t x):=(aO _ _ _ _ _ _ x1:W0.cell? ⟨w.heap.size+1,0,za⟩=_);have hc:=KY B n nw bt sv fv mk f fr F W0 (.iface t x) (h.below ae) (aR.keep (.of ae) p _ hl) jc xw;have a1:=znw;have a2:=znv;have a3:=ztm
 go_enter func163,ntmps163
 go_wp2_with fail
 refine hc.mono ?_;rintro e W2 ⟨n1,ga,gl,b,rY,mL,mk',f',fr',F',A,L,rfl,cM,D1⟩;clear hc ah q0 a1 a2 a3;have u0:=D1.kp.eV _ _ _ x0 (by decide) (by decide) (by decide);have u1:=D1.kp.eV _ _ _ x1 (by decide) (by decide) (by decide);obtain⟨W3,ff⟩:∃W3,W2.alloc (zd #[.bool b,zc (zb ⟨ga,0,za⟩) nw nw,zc (zb ⟨gl,0,za⟩) nw nw] 226)=W3:=⟨_,rfl⟩;have ay:zk W2.heap.size W2 W3:=by rw[<-ff];exact au
 have v0:W3.heap[w.heap.size]?=_:=(ay.block _ (ap.1 u0).1).trans u0;have v1:W3.heap[w.heap.size+1]?=_:=(ay.block _ (ap.1 u1).1).trans u1;have v2:W3.heap[W2.heap.size]?=zb (zd #[.bool b,zc (zb ⟨ga,0,za⟩) nw nw,zc (zb ⟨gl,0,za⟩) nw nw] 226 (0,0)):=by rw[<-ff];exact aL _ _
 have c1:W3.cell? ⟨w.heap.size+1,1,za⟩=zb (.iface t2 x2):=(aO _ _ _ _ _ _ v1:W3.cell? ⟨w.heap.size+1,1,za⟩=_);obtain⟨d0,d1,d2,-,-,-⟩:=bW v2;have Aw:zk W2.heap.size W2 W3.drew:=ay.drew;have dx:=KZ B n1 nw bt rY mL mk' f' fr' F' W3.drew (.iface t2 x2) (D1.tk.below Aw) (aR.keep (.of Aw) q _ (aR.keep D1.kp.K1 q _ (aR.keep (.of ae) q _ hr))) nY (KA n1 cM);have gz:zl prog 163 #[zi (zb ⟨bt,0,za⟩),.iface t2 x2] W3.drew λe W=>∃v,e=.returned v/\∃(n2 ha hl:Nat) (c:Bool),v=zg #[.bool c,zc (zb ⟨ha,0,za⟩) nw nw,zc (zb ⟨hl,0,za⟩) nw nw]/\zj (n2<=n+(aF (.aQ p q)).toNat)/\(W.cell? ⟨W2.heap.size,0,za⟩=zb (.bool b)/\W.cell? ⟨W2.heap.size,1,za⟩=zb (zc (zb ⟨ga,0,za⟩) nw nw)/\W.cell? ⟨W2.heap.size,2,za⟩=zb (zc (zb ⟨gl,0,za⟩) nw nw))/\zj (W.heap[w.heap.size]?=zb (zd #[.bool false,zc za 0 0,zc za 0 0] 226 (0,0)))/\
   zl prog 188 #[zi (zb ⟨bt,0,za⟩),zg #[.bool b,zc (zb ⟨ga,0,za⟩) nw nw,zc (zb ⟨gl,0,za⟩) nw nw],zg #[.bool c,zc (zb ⟨ha,0,za⟩) nw nw,zc (zb ⟨hl,0,za⟩) nw nw]] W λe W5=>e=.returned (zg #[.bool (b || c),zc (zb ⟨ga,0,za⟩) nw nw,zc (zb ⟨gl,0,za⟩) nw nw])/\jZ B W0 n nw bt mk f fr F W5 n2 ga gl (b || c) (bY (.aQ p q) n)/\KU W W5:=by
  refine dx.mono ?_;rintro e W ⟨n2,ha,hl,c,CT,oR,Le,f2,Gk,F2,A',L',rfl,iA,D2⟩;refine⟨_,rfl,n2,ha,hl,c,rfl,?_,?_,D2.kp.eV _ _ _ v0 (by decide) (by decide) (by decide),by obtain rfl:n1=n+ez p:=D1.DN (lN p n) (by omega);exact zst (D1.pair Aw D2)⟩
  ·show n2<=_;rw[QJ.out];omega
  ·obtain⟨z0,z1,z2,-,-,-⟩:=bW (D2.kp.eV _ _ _ v2 (by decide) (by decide) (by decide));exact⟨z0,z1,z2⟩
 clear dx v1 v2 v0 u0 u1 x1 KA KY KZ D1 ay Aw h;go_wp2;clear ff
 go_region_law ((first|(refine A9 (by rfl) 163 #[.tmp 43,.tmp 45] #[224,184] (by rfl) #[zi (zb ⟨bt,0,za⟩),.iface t2 x2] (by simp[Act.eval]) _ (LO _ _) gz ?_;rintro _ W4 ⟨n2,ha,hl,c,rfl,fQ,⟨z0,z1,z2⟩,HX,mZ⟩)|(refine Dd (by rfl) 188 #[.tmp 41,.tmp 42,.tmp 46] #[224,226,226] (by rfl) _ (by simp[Act.eval]) _ _ (zk1 _ _) mZ ?_;rintro W5 ⟨D5,oU⟩;have y0:=oU _ _ _ HX.out (by decide);obtain⟨k0,k1,k2,f0,f1,f2⟩:=bW y0)))
 all_goals
  obtain⟨UG,RG,Uk,f5,RF,F5,A5,L5,D⟩:=D5;have AR:=(D.start ae (by omega)).ret y0 (ai _) gX fQ.out;clear gz mZ D y0 oU HX z0 z1 z2 d0 d1 d2 c1;go_wp2;exact bD (by simp[results,results163,go_sem,k0,k1,k2]) rfl AR
end
section
variable {B n nw bt n' ga gl k:Nat}{w W:zf}{mk fr:Nat -> Nat}{f:Nat -> Nat -> Bool}{F:Nat -> Nat -> Nat}{b:Bool}{M:PA}{v:zh}
attribute [local go_sem ↓] wp_at_zero wp_at_succ
def FF(B:Nat)(w:zf)(n nw bt:Nat)(mk:Nat->Nat)(f:Nat->Nat->Bool)(fr:Nat->Nat)(F:Nat->Nat->Nat)(r N:Nat)(M:PA)(W:zf):Prop:=
 ∃(n' ga gl:Nat) (b:Bool),W.heap[r]?=zb (zd #[.bool b,zc (zb ⟨ga,0,za⟩) nw nw,zc (zb ⟨gl,0,za⟩) nw nw] 226 (0,0))/\n'<=n+N/\jZ B w n nw bt mk f fr F W n' ga gl b M
theorem jZ.rU{o:Nat}{cs:Array zh}
  (h:jZ B w n nw bt mk f fr F W n' ga gl b M) (hb:W.heap[k]?=zb (zd cs 226 (0,0))) (h0:w.heap.size<=k) (h1:0<w.heap.size):jZ B w n nw bt mk f fr F (W.setCell ⟨k,o,za⟩ v) n' ga gl b M:=by
 obtain⟨sv,fv,mk',f',fr',F',A,L,D⟩:=h;exact⟨sv,fv,mk',f',fr',F',A,L,D.rU hb h0 h1⟩
theorem jZ.uO
  (h:jZ B w n nw bt mk f fr F W n' ga gl b M):jZ B w n nw bt mk f fr F W n' ga gl true (PA.uO M):=by
 obtain⟨sv,fv,mk',f',fr',F',A,L,D⟩:=h;exact⟨sv,fv,mk',f',fr',F',A,L,D.uO⟩
theorem jZ.words{N:PA}
  (h:jZ B w n nw bt mk f fr F W n' ga gl b M) (hl:M=N):jZ B w n nw bt mk f fr F W n' ga gl b N:=by
 obtain⟨sv,fv,mk',f',fr',F',A,L,D⟩:=h;exact⟨sv,fv,mk',f',fr',F',A,L,D.words hl⟩
theorem jZ.DN
  (h:jZ B w n nw bt mk f fr F W n' ga gl b M) (hM:∀q,M.D q↔n<=q/\q<k) (hk:n<=k):n'=k:=by
 obtain⟨sv,fv,mk',f',fr',F',A,L,D⟩:=h;exact D.DN hM hk
theorem jZ.kp
  (h:jZ B w n nw bt mk f fr F W n' ga gl b M):Kp B w W:=by
 obtain⟨sv,fv,mk',f',fr',F',A,L,D⟩:=h;exact D.kp
theorem jZ.OL{x y z:zh}
  (h:jZ B w n nw bt mk f fr F W n' ga gl b M) (hb:W.heap[k]?=zb (zd #[x,y,z] 226 (0,0))) (h0:w.heap.size<=k) (h1:0<w.heap.size) (v0 v1 v2:zh):
  jZ B w n nw bt mk f fr F (((W.setCell ⟨k,0,za⟩ v0).setCell ⟨k,1,za⟩ v1).setCell ⟨k,2,za⟩ v2) n' ga gl b M/\(((W.setCell ⟨k,0,za⟩ v0).setCell ⟨k,1,za⟩ v1).setCell ⟨k,2,za⟩ v2).heap[k]?=zb (zd #[v0,v1,v2] 226 (0,0)):=by
 have r1:=dF _ _ 0 _ _ v0 hb;have r2:=dF _ _ 1 _ _ v1 r1;have r3:=dF _ _ 2 _ _ v2 r2;exact⟨((h.rU hb h0 h1).rU r1 h0 h1).rU r2 h0 h1,r3⟩
def ztk(B:Nat)(w:zf)(n nw bt:Nat)(mk:Nat->Nat)(f:Nat->Nat->Bool)(fr:Nat->Nat)(F:Nat->Nat->Nat)(r N ga gl:Nat)(b:Bool)(p:Pt)(s:Nat)(M:PA)(v:zh)(W:zf):Prop:=
 ∃(n2 ha hl:Nat) (c:Bool),v=zg #[.bool c,zc (zb ⟨ha,0,za⟩) nw nw,zc (zb ⟨hl,0,za⟩) nw nw]/\zj (n2<=n+(N+(aF p).toNat))/\(W.cell? ⟨r,0,za⟩=zb (.bool b)/\W.cell? ⟨r,1,za⟩=zb (zc (zb ⟨ga,0,za⟩) nw nw)/\W.cell? ⟨r,2,za⟩=zb (zc (zb ⟨gl,0,za⟩) nw nw))/\zj (W.heap[r]?=zb (zd #[.bool b,zc (zb ⟨ga,0,za⟩) nw nw,zc (zb ⟨gl,0,za⟩) nw nw] 226 (0,0)))/\
  zl prog 187 #[zi (zb ⟨bt,0,za⟩),zg #[.bool c,zc (zb ⟨ha,0,za⟩) nw nw,zc (zb ⟨hl,0,za⟩) nw nw],zg #[.bool b,zc (zb ⟨ga,0,za⟩) nw nw,zc (zb ⟨gl,0,za⟩) nw nw]] W λe W5=>e=.returned (zg #[.bool (c&&b),zc (zb ⟨ha,0,za⟩) nw nw,zc (zb ⟨gl,0,za⟩) nw nw])/\jZ B w n nw bt mk f fr F W5 n2 ha gl (c&&b) (PA.seq (bY p s) M)/\KU W W5
theorem Wq{r N:Nat}{p:Pt}(ih:qk p)(hT:aR w v p)(hle:aF p<=2000)
  (hX:jZ B w n nw bt mk f fr F W n' ga gl b M) (hr:W.heap[r]?=zb (zd #[.bool b,zc (zb ⟨ga,0,za⟩) nw nw,zc (zb ⟨gl,0,za⟩) nw nw] 226 (0,0))) (hn:n'<=n+N) (hN:n+(N+(aF p).toNat)<=64*nw) {s:Nat} (hs:n'=s):
  zl prog 163 #[zi (zb ⟨bt,0,za⟩),v] W.drew λe W4=>∃v,e=.returned v/\ztk B w n nw bt mk f fr F r N ga gl b p s M v W4:=by
 subst hs;obtain⟨sv,fv,mk',f',fr',F',A,L,D⟩:=hX;have hb:zk W.heap.size W W.drew:=(Below.refl _ _).drew;refine(ih B n' nw bt sv fv mk' f' fr' F' W.drew v (D.tk.below hb) (aR.keep (.of hb) p _ (aR.keep D.kp.K1 p _ hT)) hle (by omega)).mono ?_;rintro e W4 ⟨n2,ha,hl,c,CT,oR,Le,f2,Gk,F2,A',L',rfl,iA,D2⟩;have nZ:=D2.kp.eV r _ _ hr (by decide) (by decide) (by decide);obtain⟨z0,z1,z2,-,-,-⟩:=bW nZ;exact⟨_,rfl,n2,ha,hl,c,rfl,by show n2<=_;omega,⟨z0,z1,z2⟩,nZ,zp7 (D.pair hb D2).swap⟩
end
section
attribute [local go_sem ↓] wp_at_zero wp_at_succ
theorem zk0(p:Pt)(ih:qk p)(m d e:Nat)(ti:e=m+d)(he:e<=255)(B n nw bt:Nat)(sv fv:zh)(mk:Nat->Nat)(f:Nat->Nat->Bool)(fr:Nat->Nat)(F:Nat->Nat->Nat)(w:zf)(t:zm)(x:zh)(h:jp B w n nw bt sv fv mk f fr F)(hT:aR w (.iface t x) p)(hle:aF p<=2000)(hn:n+e*(aF p).toNat<=64*nw):
  zl prog 189 #[zi (zb ⟨bt,0,za⟩),zg #[.iface t x,ze .i64 m,ze .i64 e]] w λr W=>zT B w n nw bt mk f fr F (e*(aF p).toNat) (bY (.aw p m e) n) r W:=by
 have gX:=qa h.dR;have jN:bt<w.heap.size:=(ap.1 h.box).1;have cX:=h.bb;have bV:=h.gY;obtain⟨W0,ah⟩:∃W0,(w.alloc (zd #[.iface t x,ze .i64 m,ze .i64 e] 261)).alloc (zd #[.bool false,zc za 0 0,zc za 0 0] 226)=W0:=⟨_,rfl⟩;have ae:zk w.heap.size w W0:=by rw[<-ah];exact(au).alloc (by simp) _
 have x0:W0.heap[w.heap.size]?=zb (zd #[.iface t x,ze .i64 m,ze .i64 e] 261 (0,0)):=by rw[<-ah];exact cQ (aL _ _)
 have x1:W0.heap[w.heap.size+1]?=zb (zd #[.bool false,zc za 0 0,zc za 0 0] 226 (0,0)):=by rw[<-ah];exact Fe _ _ _
 have bX:=ae.size;have h0:=h.below ae;have lU:=aR.keep (.of ae) p _ hT;have bB:=Wx nw bt true sv fv W0 h0.box bV;have hne:((e:Int) == -1)=false:=by simp
 have zwq:(e:Int)-(m:Int)=(d:Int):=by omega
 have Jd:zj (∀a b:Nat,a+b<=e->a*(aF p).toNat+b*(aF p).toNat<=e*(aF p).toNat):=λa b yL=>by rw[<-Nat.add_mul];exact Nat.mul_le_mul_right _ yL
 have yu:zj (e=m+d):=ti;have zzX:d<=255:=by omega
 have zyB:m<=255:=by omega
 clear ti
 go_enter func189,ntmps189
 go_wp2_with fail
 refine bB.mono ?_;rintro e1 W1 ⟨ga,gl,rfl,na,nl,eT,ak⟩;clear bB ah;obtain⟨W2,dH⟩:∃W2,W1.alloc (zd #[.bool true,zc (zb ⟨ga,0,za⟩) nw nw,zc (zb ⟨gl,0,za⟩) nw nw] 226)=W2:=⟨_,rfl⟩;have af:zk W1.heap.size W1 W2:=by rw[<-dH];exact au
 have r2:W2.heap[W1.heap.size]?=zb (zd #[.bool true,zc (zb ⟨ga,0,za⟩) nw nw,zc (zb ⟨gl,0,za⟩) nw nw] 226 (0,0)):=by rw[<-dH];exact aL _ _
 have D0:=((fK.bare h0 true na nl eT ak).below af).words (N:=xL (bY p) (ez p) n 0) rfl;have hX:FF B W0 n nw bt mk f fr F W1.heap.size (0*(aF p).toNat) (xL (bY p) (ez p) n 0) W2:=⟨n,ga,gl,true,r2,by omega,_,_,_,_,_,_,_,_,D0⟩;have dB:=ak.size;have y0:=D0.kp.eV _ _ _ x0 (by decide) (by decide) (by decide);obtain⟨c0,c1,c2,-,-,-⟩:=bW y0;clear D0 r2 eT y0 ak af na nl h h0 hT;have Hn:zj (n+e*(aF p).toNat<=64*nw):=hn;have Es:W0.heap.size<=W1.heap.size:=dB;have ja:0<W0.heap.size:=by omega
 clear hn dB;go_wp2;clear dH c0 c1 c2
 go_loopw [27] (λi wr=>∃j:Nat,j<=d/\i=ze .i64 j/\FF B W0 n nw bt mk f fr F W1.heap.size (j*(aF p).toNat) (xL (bY p) (ez p) n j) wr)
  (λi _=>d-(intOf i).toNat)
 case atStart=>exact⟨0,aZ _,rfl,hX⟩
 case round=>
  obtain⟨j,hj,rfl,n',RI,vG,b,hr,jO,cV⟩:=hrel
  by_cases hlt:j<d
  ·have Hj:=Jd.out j 1 (by have:=yu.out;omega);have hw:=Wq ih lU hle cV hr jO (by have:=Hn.out;omega) (cV.DN (IK (lN p) n j) (by omega));have yk:=cV.kp.eV _ _ _ x0 (by decide) (by decide) (by decide);have c0:wr.cell? ⟨w.heap.size,0,za⟩=zb (.iface t x):=(bW yk).1;obtain⟨d0,d1,d2,-,-,-⟩:=bW hr;have dO:(0:Int)<=(j:Int):=by omega
   have dh:(j:Int)<(d:Int):=by omega
   have Ja:zj (j*(aF p).toNat+(aF p).toNat=(j+1)*(aF p).toNat):=by show _=_;rw[Nat.add_mul,Nat.one_mul]
   clear Hj hX cV yk hr jO;go_wp2
   go_region_law ((first|(refine A9 (by rfl) 163 #[.tmp 30,.tmp 32] #[224,184] (by rfl) #[zi (zb ⟨bt,0,za⟩),.iface t x] (by simp[Act.eval]) _ (LO _ _) hw ?_;rintro _ W4 ⟨n2,ha,hl,c,rfl,fQ,⟨z0,z1,z2⟩,HX,mZ⟩)|(refine Dd (by rfl) 187 #[.tmp 29,.tmp 33,.tmp 34] #[224,226,226] (by rfl) _ (by simp[Act.eval]) _ _ (Pp _ _) mZ ?_;rintro W5 ⟨D5,oU⟩;have y0:=oU _ _ _ HX.out (by decide);obtain⟨k0,k1,k2,f0,f1,f2⟩:=bW y0)))
   all_goals
    obtain⟨q5,q6⟩:=D5.OL y0 Es ja (.bool (c&&b)) (zc (zb ⟨ha,0,za⟩) nw nw) (zc (zb ⟨vG,0,za⟩) nw nw);clear hw mZ y0 oU HX z0 z1 z2 d0 d1 d2 c0 D5 k0 k1 k2 f0 f1 f2;generalize ((W5.setCell ⟨W1.heap.size,0,za⟩ (.bool (c&&b))).setCell ⟨W1.heap.size,1,za⟩ (zc (zb ⟨ha,0,za⟩) nw nw)).setCell ⟨W1.heap.size,2,za⟩ (zc (zb ⟨vG,0,za⟩) nw nw)=W6 at *;obtain⟨k0,-,-,f0,-,-⟩:=bW q6;go_wp2
    go_roundw
    case rel=>exact⟨j+1,by omega,by go_num,n2,ha,vG,true,dF _ _ 0 _ _ _ q6,by have:=fQ.out;have:=Ja.out;omega,((q5.rU q6 Es ja).uO).words rfl⟩
    case measure=>simp[intOf];omega
  ·have hjd:j=d:=by omega
   subst hjd;have yk:=cV.kp.eV _ _ _ x0 (by decide) (by decide) (by decide);have c1:wr.cell? ⟨w.heap.size,1,za⟩=zb (ze .i64 m):=(bW yk).2.1;have JW:FF B W0 n nw bt mk f fr F W1.heap.size (j*(aF p).toNat) (vB (bY p) (ez p) (xL (bY p) (ez p) n j) (n+j*ez p) 0) wr:=⟨n',RI,vG,b,hr,jO,cV.words rfl⟩;clear cV hr jO yk hX;go_wp2;clear c1
   go_loopw [40] (λi wr=>∃k:Nat,k<=m/\i=ze .i64 k/\FF B W0 n nw bt mk f fr F W1.heap.size ((j+k)*(aF p).toNat) (vB (bY p) (ez p) (xL (bY p) (ez p) n j) (n+j*ez p) k) wr)
    (λi _=>m-(intOf i).toNat)
   case atStart=>exact⟨0,aZ _,rfl,JW⟩
   case round=>
    clear JW;obtain⟨k,hk,rfl,n',RI,vG,b,hr,jO,cV⟩:=hrel
    by_cases hlt:k<m
    ·have Hj:=Jd.out (j+k) 1 (by have:=yu.out;omega);have hw:=Wq ih lU hle cV hr jO (by have:=Hn.out;omega) (cV.DN (IJ (lN p) (IK (lN p) n j) (by omega) k) (by omega));have yk:=cV.kp.eV _ _ _ x0 (by decide) (by decide) (by decide);have c0:wr.cell? ⟨w.heap.size,0,za⟩=zb (.iface t x):=(bW yk).1;obtain⟨d0,d1,d2,-,-,-⟩:=bW hr;have dO:(0:Int)<=(k:Int):=by omega
     have dh:(k:Int)<(m:Int):=by omega
     have Ja:zj ((j+k)*(aF p).toNat+(aF p).toNat=(j+(k+1))*(aF p).toNat):=by show _=_;rw[<-Nat.add_assoc,Nat.add_mul _ 1,Nat.one_mul]
     clear Hj cV yk hr jO;go_wp2
     go_region_law ((first|(refine A9 (by rfl) 163 #[.tmp 43,.tmp 45] #[224,184] (by rfl) #[zi (zb ⟨bt,0,za⟩),.iface t x] (by simp[Act.eval]) _ (LO _ _) hw ?_;rintro _ W4 ⟨n2,ha,hl,c,rfl,fQ,⟨z0,z1,z2⟩,HX,mZ⟩)|(refine Dd (by rfl) 187 #[.tmp 42,.tmp 46,.tmp 47] #[224,226,226] (by rfl) _ (by simp[Act.eval]) _ _ (Pp _ _) mZ ?_;rintro W5 ⟨D5,oU⟩;have y0:=oU _ _ _ HX.out (by decide);obtain⟨k0,k1,k2,f0,f1,f2⟩:=bW y0)))
     all_goals
      obtain⟨q5,q6⟩:=D5.OL y0 Es ja (.bool (c&&b)) (zc (zb ⟨ha,0,za⟩) nw nw) (zc (zb ⟨vG,0,za⟩) nw nw);clear hw mZ y0 oU HX z0 z1 z2 d0 d1 d2 c0 D5 k0 k1 k2 f0 f1 f2;generalize ((W5.setCell ⟨W1.heap.size,0,za⟩ (.bool (c&&b))).setCell ⟨W1.heap.size,1,za⟩ (zc (zb ⟨ha,0,za⟩) nw nw)).setCell ⟨W1.heap.size,2,za⟩ (zc (zb ⟨vG,0,za⟩) nw nw)=W6 at *;go_wp2
      go_roundw
      case rel=>exact⟨k+1,by omega,by go_num,n2,ha,vG,c&&b,q6,by have:=fQ.out;have:=Ja.out;omega,q5.words rfl⟩
      case measure=>simp[intOf];omega
    ·have GO:k=m:=by omega
     subst GO;obtain⟨UG,RG,Uk,f5,RF,F5,A5,L5,D⟩:=cV;have yk:=D.kp.eV _ _ _ x1 (by decide) (by decide) (by decide);obtain⟨k0,k1,k2,f0,f1,f2⟩:=bW yk;obtain⟨d0,d1,d2,-,-,-⟩:=bW hr;have AR:=((D.start ae (by omega)).words (N:=bY (.aw p (k:Int) (e:Int)) n) (by rw[yu.out];exact zkf n p k j)).ret (m:=e*(aF p).toNat) yk (by omega) gX (by rw[yu.out,Nat.add_comm k j];exact jO);clear D yk hr;go_wp2;exact bD (by simp[results,results189,go_sem,k0,k1,k2]) rfl AR
end
section
attribute [local go_sem ↓] wp_at_zero wp_at_succ
theorem zkZ(p:Pt)(ih:qk p)(m e:Nat)(ti:e=m+1)(he:m<=255)(B n nw bt:Nat)(sv fv:zh)(mk:Nat->Nat)(f:Nat->Nat->Bool)(fr:Nat->Nat)(F:Nat->Nat->Nat)(w:zf)(t:zm)(x:zh)(h:jp B w n nw bt sv fv mk f fr F)(hT:aR w (.iface t x) p)(hle:aF p<=2000)(hn:n+e*(aF p).toNat<=64*nw):
  zl prog 189 #[zi (zb ⟨bt,0,za⟩),zg #[.iface t x,ze .i64 m,ze .i64 (-1)]] w λr W=>zT B w n nw bt mk f fr F (e*(aF p).toNat) (bY (.aw p m (-1)) n) r W:=by
 have gX:=qa h.dR;have jN:bt<w.heap.size:=(ap.1 h.box).1;have cX:=h.bb;have bV:=h.gY;obtain⟨W0,ah⟩:∃W0,(w.alloc (zd #[.iface t x,ze .i64 m,ze .i64 (-1)] 261)).alloc (zd #[.bool false,zc za 0 0,zc za 0 0] 226)=W0:=⟨_,rfl⟩;have ae:zk w.heap.size w W0:=by rw[<-ah];exact(au).alloc (by simp) _
 have x0:W0.heap[w.heap.size]?=zb (zd #[.iface t x,ze .i64 m,ze .i64 (-1)] 261 (0,0)):=by rw[<-ah];exact cQ (aL _ _)
 have x1:W0.heap[w.heap.size+1]?=zb (zd #[.bool false,zc za 0 0,zc za 0 0] 226 (0,0)):=by rw[<-ah];exact Fe _ _ _
 have bX:=ae.size;have h0:=h.below ae;have lU:=aR.keep (.of ae) p _ hT;have bB:=Wx nw bt true sv fv W0 h0.box bV;have Jd:zj (∀a b:Nat,a+b<=e->a*(aF p).toNat+b*(aF p).toNat<=e*(aF p).toNat):=λa b yL=>by rw[<-Nat.add_mul];exact Nat.mul_le_mul_right _ yL
 have yu:zj (e=m+1):=ti;have zyB:m<=255:=by omega
 clear ti
 go_enter func189,ntmps189
 go_wp2_with fail
 refine bB.mono ?_;rintro e1 W1 ⟨ga,gl,rfl,na,nl,eT,ak⟩;clear bB ah;obtain⟨W2,dH⟩:∃W2,W1.alloc (zd #[.bool true,zc (zb ⟨ga,0,za⟩) nw nw,zc (zb ⟨gl,0,za⟩) nw nw] 226)=W2:=⟨_,rfl⟩;have af:zk W1.heap.size W1 W2:=by rw[<-dH];exact au
 have r2:W2.heap[W1.heap.size]?=zb (zd #[.bool true,zc (zb ⟨ga,0,za⟩) nw nw,zc (zb ⟨gl,0,za⟩) nw nw] 226 (0,0)):=by rw[<-dH];exact aL _ _
 have D0:=(fK.bare h0 true na nl eT ak).below af;have dB:=ak.size;have y0:=D0.kp.eV _ _ _ x0 (by decide) (by decide) (by decide);obtain⟨c0,c1,c2,-,-,-⟩:=bW y0;have Hn:zj (n+e*(aF p).toNat<=64*nw):=hn;have Es:W0.heap.size<=W1.heap.size:=dB;have ja:0<W0.heap.size:=by omega
 have jK:zk W0.heap.size W0 W2:=ak.trans (af.mono dB);have rO:=Jd.out 1 0 (by have:=yu.out;omega);have hc:=ih B n nw bt sv fv mk f fr F W2 (.iface t x) (h0.below jK) (aR.keep (.of jK) p _ lU) hle (by omega);clear hn dB D0 eT y0 ak af na nl h h0 hT
 go_wp2_with fail
 refine hc.mono ?_;rintro e3 W3 ⟨n1,ha,hl,c,sv3,fv3,mk3,f3,fr3,F3,A3,L3,rfl,nW,D3⟩;clear hc dH c0 c1 c2;have r3:=D3.kp.eV _ _ _ r2 (by decide) (by decide) (by decide);have Xs:=D3.start jK (by omega);obtain⟨k0,k1,k2,f0,f1,f2⟩:=bW r3;obtain⟨⟨sv4,fv4,mk4,f4,fr4,F4,A4,L4,q5⟩,q6⟩:=jZ.OL ⟨_,_,_,_,_,_,_,_,Xs⟩ r3 Es ja (.bool c) (zc (zb ⟨ha,0,za⟩) nw nw) (zc (zb ⟨hl,0,za⟩) nw nw);have qx:=zrX q5;obtain⟨W4,rF⟩:∃W4,((W3.setCell ⟨W1.heap.size,0,za⟩ (.bool c)).setCell ⟨W1.heap.size,1,za⟩ (zc (zb ⟨ha,0,za⟩) nw nw)).setCell ⟨W1.heap.size,2,za⟩ (zc (zb ⟨hl,0,za⟩) nw nw)=W4:=⟨_,rfl⟩;rw[rF]at qx q6 q5;have y4:=q5.kp.eV _ _ _ x0 (by decide) (by decide) (by decide);obtain⟨d0,d1,d2,-,-,-⟩:=bW q6;clear D3 Xs r3 r2 q5
 go_wp2_with fail
 refine qx.mono ?_;rintro e5 W5 ⟨rfl,Z7,oU⟩;clear qx rF k0 k1 k2 f0 f1 f2 d0 d1 d2;have r5:=oU _ _ _ q6 (by decide);have y5:=oU _ _ _ y4 (by decide);obtain⟨k0,-,-,f0,-,-⟩:=bW r5;have Sd:=Z7.rU (o:=0) (v:=.bool true) r5 Es ja;have r6:=dF _ _ 0 _ _ (.bool true) r5;have y6:=Sd.kp.eV _ _ _ x0 (by decide) (by decide) (by decide);obtain⟨-,c1,c2,-,-,-⟩:=bW y6;have zwq:(-1:Int)-(m:Int)=-((m:Int)+1):=by omega
 clear q6 y4 y5 Z7 oU r5;go_wp2;generalize Ch:W5.setCell ⟨W1.heap.size,0,za⟩ (.bool true)=W6 at *;clear Ch k0 f0 c1 c2
 go_loopw [27] (λi wr=>i=ze .i64 0/\wr=W6) (λ_ _=>0)
 case atStart=>exact⟨rfl,rfl⟩
 case round=>
   obtain⟨rfl,rfl⟩:=hrel;have l9:¬(0:Int) < -((m:Int)+1):=by omega
   have yk:=Sd.kp.eV _ _ _ x0 (by decide) (by decide) (by decide);have c1:wr.cell? ⟨w.heap.size,1,za⟩=zb (ze .i64 m):=(bW yk).2.1;have JW:FF B W0 n nw bt mk f fr F W1.heap.size (1*(aF p).toNat) (vB (bY p) (ez p) (PA.star (bY p n)) (n+1*ez p) 0) wr:=⟨n1,ha,hl,true,r6,by omega,Sd.words rfl⟩;clear yk;go_wp2;clear c1
   go_loopw [40] (λi wr=>∃k:Nat,k<=m/\i=ze .i64 k/\FF B W0 n nw bt mk f fr F W1.heap.size ((1+k)*(aF p).toNat) (vB (bY p) (ez p) (PA.star (bY p n)) (n+1*ez p) k) wr)
    (λi _=>m-(intOf i).toNat)
   case atStart=>exact⟨0,aZ _,rfl,JW⟩
   case round=>
    clear JW;obtain⟨k,hk,rfl,n',RI,vG,b,hr,jO,cV⟩:=hrel
    by_cases hlt:k<m
    ·have Hj:=Jd.out (1+k) 1 (by have:=yu.out;omega);have hw:=Wq ih lU hle cV hr jO (by have:=Hn.out;omega) (cV.DN (IJ (lN p) (zsj p n) (by omega) k) (by omega));have yk:=cV.kp.eV _ _ _ x0 (by decide) (by decide) (by decide);have c0:wr.cell? ⟨w.heap.size,0,za⟩=zb (.iface t x):=(bW yk).1;obtain⟨d0,d1,d2,-,-,-⟩:=bW hr;have dO:(0:Int)<=(k:Int):=by omega
     have dh:(k:Int)<(m:Int):=by omega
     have Ja:zj ((1+k)*(aF p).toNat+(aF p).toNat=(1+(k+1))*(aF p).toNat):=by show _=_;rw[<-Nat.add_assoc,Nat.add_mul _ 1,Nat.one_mul]
     clear Hj cV yk hr jO;go_wp2
     go_region_law ((first|(refine A9 (by rfl) 163 #[.tmp 43,.tmp 45] #[224,184] (by rfl) #[zi (zb ⟨bt,0,za⟩),.iface t x] (by simp[Act.eval]) _ (LO _ _) hw ?_;rintro _ W4 ⟨n2,ha,hl,c,rfl,fQ,⟨z0,z1,z2⟩,HX,mZ⟩)|(refine Dd (by rfl) 187 #[.tmp 42,.tmp 46,.tmp 47] #[224,226,226] (by rfl) _ (by simp[Act.eval]) _ _ (Pp _ _) mZ ?_;rintro W5 ⟨D5,oU⟩;have y0:=oU _ _ _ HX.out (by decide);obtain⟨k0,k1,k2,f0,f1,f2⟩:=bW y0)))
     all_goals
      obtain⟨q5,q6⟩:=D5.OL y0 Es ja (.bool (c&&b)) (zc (zb ⟨ha,0,za⟩) nw nw) (zc (zb ⟨vG,0,za⟩) nw nw);clear hw mZ y0 oU HX z0 z1 z2 d0 d1 d2 c0 D5 k0 k1 k2 f0 f1 f2;generalize ((W5.setCell ⟨W1.heap.size,0,za⟩ (.bool (c&&b))).setCell ⟨W1.heap.size,1,za⟩ (zc (zb ⟨ha,0,za⟩) nw nw)).setCell ⟨W1.heap.size,2,za⟩ (zc (zb ⟨vG,0,za⟩) nw nw)=W6 at *;go_wp2
      go_roundw
      case rel=>exact⟨k+1,by omega,by go_num,n2,ha,vG,c&&b,q6,by have:=fQ.out;have:=Ja.out;omega,q5.words rfl⟩
      case measure=>simp[intOf];omega
    ·have GO:k=m:=by omega
     subst GO;obtain⟨UG,RG,Uk,f5,RF,F5,A5,L5,D⟩:=cV;have yk:=D.kp.eV _ _ _ x1 (by decide) (by decide) (by decide);obtain⟨k0,k1,k2,f0,f1,f2⟩:=bW yk;obtain⟨d0,d1,d2,-,-,-⟩:=bW hr;have AR:=((D.start ae (by omega)).words (N:=bY (.aw p (k:Int) (-1)) n) (zke n p k)).ret (m:=e*(aF p).toNat) yk (by omega) gX (by rw[yu.out,Nat.add_comm k 1];exact jO);clear D yk hr;go_wp2;exact bD (by simp[results,results189,go_sem,k0,k1,k2]) rfl AR
end
section
attribute [local go_sem ↓] wp_at_zero wp_at_succ
theorem zT.wide{B:Nat}{w:zf}{n nw bt:Nat}{mk:Nat->Nat}{f:Nat->Nat->Bool}{fr:Nat->Nat}{F:Nat->Nat->Nat}{k k':Nat}{M:PA}{e:Ending}{W:zf}(h:zT B w n nw bt mk f fr F k M e W)(hk:k<=k'):zT B w n nw bt mk f fr F k' M e W:=by
 obtain⟨n',ga,gl,b,sv,fv,mk',f',fr',F',A,L,h1,h2,h3⟩:=h;exact⟨n',ga,gl,b,sv,fv,mk',f',fr',F',A,L,h1,by omega,h3⟩
theorem zm4(p:Pt)(ih:qk p)(mn mx:Int)(dZ:eK mn mx=true)(B n nw bt:Nat)(sv fv:zh)(mk:Nat->Nat)(f:Nat->Nat->Bool)(fr:Nat->Nat)(F:Nat->Nat->Nat)(w:zf)(t:zm)(x:zh)(h:jp B w n nw bt sv fv mk f fr F)(hT:aR w (.iface t x) p)(hle:aF (.aw p mn mx)<=2000)(hn:n+(aF (.aw p mn mx)).toNat<=64*nw):
  zl prog 189 #[zi (zb ⟨bt,0,za⟩),zg #[.iface t x,ze .i64 mn,ze .i64 mx]] w λr W=>zT B w n nw bt mk f fr F (aF (.aw p mn mx)).toNat (bY (.aw p mn mx) n) r W:=by
 have fD:=(iS p _ hT).1;have hc:=E2 dZ;have e:aF (.aw p mn mx)=cJ (aF p*dV mn mx):=rfl;have hw:aF (.aw p mn mx)=aF p*dV mn mx:=by
  rw[e]at hle ⊢;unfold cJ at hle ⊢;split
  ·rfl
  ·rw[aq (by assumption)]at hle;omega
 rw[hw]at hle hn ⊢;clear e hw;obtain⟨wb,tu⟩:∃wb:Nat,aF p=wb:=⟨(aF p).toNat,by omega⟩;obtain⟨c,hcc⟩:∃c:Nat,dV mn mx=c:=⟨(dV mn mx).toNat,by omega⟩;have Ot:(aF p).toNat=wb:=by omega
 have zyM:aF p*dV mn mx=((c*wb:Nat):Int):=by rw[tu,hcc,Int.mul_comm];simp
 rw[zyM]at hle hn ⊢;rw[sx]at hn ⊢;have zwh:aF p<=2000:=by
  have h1:1*wb<=c*wb:=Nat.mul_le_mul_right _ (by omega);omega
 have zvw:=dZ;simp[eK]at zvw;obtain⟨⟨h1,h2⟩,h3⟩:=zvw;obtain⟨m,rfl⟩:∃m:Nat,mn=m:=⟨mn.toNat,by omega⟩
 by_cases hx:mx=-1
 ·subst hx;have te:c=m+1:=by
   unfold dV at hcc;rw[aD rfl]at hcc;omega
  have:=zkZ p ih m c te (by omega) B n nw bt sv fv mk f fr F w t x h hT zwh (by rw[Ot];exact hn);rw[Ot]at this;exact this
 ·obtain⟨ee,rfl⟩:∃ee:Nat,mx=ee:=⟨mx.toNat,by omega⟩;have hce:ee<=c:=by
   unfold dV at hcc;rw[aq hx]at hcc;split at hcc<;>omega
  have hmul:ee*wb<=c*wb:=Nat.mul_le_mul_right _ hce;have:=zk0 p ih m (ee-m) ee (by omega) (by omega) B n nw bt sv fv mk f fr F w t x h hT zwh (by rw[Ot];omega);rw[Ot]at this;exact this.mono λe W hR=>hR.wide hmul
theorem zqu(p:Pt)(mn mx:Int)(ih:qk p):qk (.aw p mn mx):=by
 intro B n nw bt sv fv mk f fr F w v h hT hle hn;obtain⟨lv,rfl,hl,dZ⟩:=hT;have gX:=qa h.dR;have jN:bt<w.heap.size:=(ap.1 h.box).1;have cX:=h.bb;obtain⟨t,x,rfl⟩:=ji hl;obtain⟨W0,ah⟩:∃W0,(w.alloc (zd #[.bool false,zc za 0 0,zc za 0 0] 226)).alloc (zd #[.iface t x,ze .i64 mn,ze .i64 mx] 261)=W0:=⟨_,rfl⟩;have ae:zk w.heap.size w W0:=by rw[<-ah];exact(au).alloc (by simp) _
 have x0:W0.heap[w.heap.size]?=zb (zd #[.bool false,zc za 0 0,zc za 0 0] 226 (0,0)):=by rw[<-ah];exact cQ (aL _ _)
 have x1:W0.heap[w.heap.size+1]?=zb (zd #[.iface t x,ze .i64 mn,ze .i64 mx] 261 (0,0)):=by rw[<-ah];exact Fe _ _ _
 obtain⟨q0,q1,q2,-,-,-⟩:=bW x1;have hc:=zm4 p ih mn mx dZ B n nw bt sv fv mk f fr F W0 t x (h.below ae) (aR.keep (.of ae) p _ hl) hle hn;have a1:=znD;have a2:=znC;have a3:=znB;have a4:=zto;clear hle hn dZ
 go_enter func163,ntmps163
 go_wp2_with fail
 refine hc.mono ?_;rintro e W ⟨n',ga,gl,b,rY,mL,mk',f',fr',F',A,L,rfl,hk,D⟩;have u0:=D.kp.eV _ _ _ x0 (by decide) (by decide) (by decide);obtain⟨k0,k1,k2,f0,f1,f2⟩:=bW u0;have AR:=(D.start ae (by omega)).ret u0 (ai _) gX hk;clear hc ah D hk;go_wp2;exact bD (by simp[results,results163,go_sem,k0,k1,k2]) rfl AR
theorem Fh:∀p:Pt,qk p
 |.set g=>zqw g
 |.seq p q=>zqv p q (Fh p) (Fh q)
 |.aQ p q=>zqs p q (Fh p) (Fh q)
 |.aw p mn mx=>zqu p mn mx (Fh p)
 |.aT p g=>zqt p g (Fh p)
end
variable {w:zf}
theorem jp.start{B:Nat}{nw bt:Nat}(cX:B<=bt)(ae:0<B)(h:vf w bt nw (zc za 0 0) (zc za 0 0))(bV:nw<=1000)(hB:fG w)(mk:Nat->Nat)(f:Nat->Nat->Bool)(fr:Nat->Nat)(F:Nat->Nat->Nat):jp B w 0 nw bt (zc za 0 0) (zc za 0 0) mk f fr F:=
 ⟨h,⟨rfl,.inl ⟨rfl,rfl⟩⟩,⟨rfl,.inl ⟨rfl,rfl⟩⟩,⟨λ_ hp=>absurd hp (dk _),λ_ _ hp=>absurd hp (dk _)⟩,λ_ hp=>absurd hp (dk _),aZ _,bV,hB,cX,ae⟩
theorem zfn{P:Program}{ops:Array Oper}{rest:List Oper}{o:Oper}{a:Act}{Q:Exit->Act->zf->Prop}(hg:o.guard=za)(t:zm)(x:Operand)(ho:o.op=.box t x)(cells:Array zh)(hx:(a.eval x).cells=cells)
  (h:wpList P ops Q rest (a.put o.dst (zi (zb ⟨w.heap.size,0,za⟩))) (w.alloc (zd cells t))):wpList P ops Q (o::rest) a w:=by
 subst hx;refine wpList_plain hg λK hK=>?_
 unfold Oper.wp execOp;simp only[ho,Sem.run_bind,Instr.box,newVar,newRow,run_newObj_alloc,Sem.run_pure,Result.andThen_ok];exact hK _ _ h
theorem zjq(k:Int):prog.built 268 [(0,ze .i64 k)]=zb #[ze .i64 k,zc za 0 0,zc za 0 0]:=by kernel_rfl
theorem zj7(wt nw:Nat)(bV:nw=(wt+63)/64)(rR:wt<=2001)(w:zf):
  zl prog 162 #[ze .i64 wt] w λe W=>e=.returned (zi (zb ⟨w.heap.size,0,za⟩))/\W=w.alloc (zd #[ze .i64 nw,zc za 0 0,zc za 0 0] 268):=by
 have e1:((wt:Int)+63)/64=(nw:Int):=by omega
 have e2:((wt:Int)+63).tdiv 64=(nw:Int):=by rw[<-e1];exact Int.tdiv_eq_ediv_of_nonneg (by omega)
 have hb:=zjq nw;have uG:nw<=1000:=by omega
 clear bV
 go_enter func162,ntmps162
 go_wp2_with (first|(refine zeg rfl 268 #[(0,.tmp 5)] rfl [(0,ze .i64 nw)] (by simp[Act.eval]) _ hb ?_)|(refine zfn rfl 268 (.tmp 6) rfl #[ze .i64 nw,zc za 0 0,zc za 0 0] rfl ?_))
 go_ret
 exact⟨rfl,rfl⟩
end Go.Proofs.YtdimhpfiieepiaaGreatDoor
