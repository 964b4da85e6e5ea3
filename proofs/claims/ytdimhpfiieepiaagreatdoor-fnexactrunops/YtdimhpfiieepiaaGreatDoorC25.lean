import Derived.Test.YtdimhpfiieepiaaGreatDoorC24
import Derived.Deep.RegionHeld3
namespace Go.Proofs.YtdimhpfiieepiaaGreatDoor
open Proofs.Tryz
open Option renaming none->za,some->zb
open Value renaming slice->zc,int->ze,agg->zg,pointer->zj
open Obj renaming cells->zd
open Go renaming World->zf,Value->zh,Calls->zm,TypeId->zn
open RowKit renaming Hid->zk,Below->zl
set_option maxHeartbeats 4000000
set_option maxRecDepth 100000
open Go.RowKit
section
attribute [local go_sem ↓] wp_at_zero wp_at_succ
theorem ztN(x:zh)(w:zf):(Instr.typeAssert (.iface 297 x) 184 297 true).run prog w=.ok (.tuple #[x,.bool true]) w:=by kernel_rfl
theorem znN(x:zh)(w:zf):(Instr.typeAssert (.iface 256 x) 184 297 true).run prog w=.ok (.tuple #[zg #[zj za],.bool false]) w:=by kernel_rfl
theorem ztM(x:zh)(w:zf):(Instr.typeAssert (.iface 256 x) 184 256 true).run prog w=.ok (.tuple #[x,.bool true]) w:=by kernel_rfl
theorem znF(x:zh)(w:zf):(Instr.typeAssert (.iface 258 x) 184 297 true).run prog w=.ok (.tuple #[zg #[zj za],.bool false]) w:=by kernel_rfl
theorem znE(x:zh)(w:zf):(Instr.typeAssert (.iface 258 x) 184 256 true).run prog w=.ok (.tuple #[zg #[.nilIface,.nilIface],.bool false]) w:=by kernel_rfl
theorem ztJ(x:zh)(w:zf):(Instr.typeAssert (.iface 258 x) 184 258 true).run prog w=.ok (.tuple #[x,.bool true]) w:=by kernel_rfl
theorem znM(x:zh)(w:zf):(Instr.typeAssert (.iface 261 x) 184 297 true).run prog w=.ok (.tuple #[zg #[zj za],.bool false]) w:=by kernel_rfl
theorem znL(x:zh)(w:zf):(Instr.typeAssert (.iface 261 x) 184 256 true).run prog w=.ok (.tuple #[zg #[.nilIface,.nilIface],.bool false]) w:=by kernel_rfl
theorem znK(x:zh)(w:zf):(Instr.typeAssert (.iface 261 x) 184 258 true).run prog w=.ok (.tuple #[zg #[.nilIface,.nilIface],.bool false]) w:=by kernel_rfl
theorem ztL(x:zh)(w:zf):(Instr.typeAssert (.iface 261 x) 184 261 true).run prog w=.ok (.tuple #[x,.bool true]) w:=by kernel_rfl
theorem znJ(x:zh)(w:zf):(Instr.typeAssert (.iface 264 x) 184 297 true).run prog w=.ok (.tuple #[zg #[zj za],.bool false]) w:=by kernel_rfl
theorem znI(x:zh)(w:zf):(Instr.typeAssert (.iface 264 x) 184 256 true).run prog w=.ok (.tuple #[zg #[.nilIface,.nilIface],.bool false]) w:=by kernel_rfl
theorem znG(x:zh)(w:zf):(Instr.typeAssert (.iface 264 x) 184 258 true).run prog w=.ok (.tuple #[zg #[.nilIface,.nilIface],.bool false]) w:=by kernel_rfl
theorem znH(x:zh)(w:zf):(Instr.typeAssert (.iface 264 x) 184 261 true).run prog w=.ok (.tuple #[zg #[.nilIface,ze .i64 0,ze .i64 0],.bool false]) w:=by kernel_rfl
theorem ztK(x:zh)(w:zf):(Instr.typeAssert (.iface 264 x) 184 264 true).run prog w=.ok (.tuple #[x,.bool true]) w:=by kernel_rfl
theorem Ge(w:zf)(a b:Obj):((w.alloc a).alloc b).heap[w.heap.size+1]?=zb b:=by
 have:=aI (w.alloc a) b
 simpa using this
theorem zqC(g:Nat->Bool):qB (.set g):=by
 intro B n nw bt sv fv mk f fr F w v h hT hle hn;obtain⟨mg,rfl,hm⟩:=hT;have gz:=ql h.dv;have eV:bt<w.heap.size:=(ah.1 h.box).1;have cN:=h.bb;have jH:n<64*nw:=by have:(aE (.set g)).toNat=1:=rfl;omega
 obtain⟨W0,ai⟩:∃W0,(w.alloc (zd #[.bool false,zc za 0 0,zc za 0 0] 226)).alloc (zd #[zj (zb ⟨mg,0,za⟩)] 297)=W0:=⟨_,rfl⟩;have af:zl w.heap.size w W0:=by rw[<-ai];exact(aw).alloc (by simp) _
 have x0:W0.heap[w.heap.size]?=zb (zd #[.bool false,zc za 0 0,zc za 0 0] 226 (0,0)):=by rw[<-ai];exact cX (aI _ _)
 have x1:W0.heap[w.heap.size+1]?=zb (zd #[zj (zb ⟨mg,0,za⟩)] 297 (0,0)):=by rw[<-ai];exact Ge _ _ _
 have q0:W0.cell? ⟨w.heap.size+1,0,za⟩=zb (zj (zb ⟨mg,0,za⟩)):=(aM _ _ _ _ _ _ x1:W0.cell? ⟨w.heap.size+1,0,za⟩=_);have hc:=zly B n nw bt mg sv fv mk f fr F g W0 (h.below af) ((af.block mg (ah.1 hm).1).trans hm) jH;have a1:=ztN
 go_enter func163,ntmps163
 go_wp2_with fail
 refine hc.mono ?_;rintro e W ⟨n',ga,gl,b,sj,mL,mk',f',fr',F',A,L,rfl,hk,D⟩;have u0:=D.kp.dO _ _ _ x0 (by decide) (by decide) (by decide);obtain⟨k0,k1,k2,f0,f1,f2⟩:=ci u0;clear hc ai;go_wp2;refine bh (v:=zg #[.bool b,zc (zb ⟨ga,0,za⟩) nw nw,zc (zb ⟨gl,0,za⟩) nw nw]) (by simp[results,results163,go_sem,k0,k1,k2]) rfl ((D.start af (by omega)).ret u0 (aj _) gz hk)
theorem zqz(p:Pt)(gi:Int)(ih:qB p):qB (.aT p gi):=by
 intro B n nw bt sv fv mk f fr F w v h hT hle hn;obtain⟨lv,rfl,hl⟩:=hT;have gz:=ql h.dv;have eV:bt<w.heap.size:=(ah.1 h.box).1;have cN:=h.bb;have zzT:aE p<=2000:=hle;have jH:n+(aE p).toNat<=64*nw:=hn;obtain⟨t,x,rfl⟩:=je hl;obtain⟨W0,ai⟩:∃W0,(w.alloc (zd #[.bool false,zc za 0 0,zc za 0 0] 226)).alloc (zd #[.iface t x,ze .i64 gi] 264)=W0:=⟨_,rfl⟩;have af:zl w.heap.size w W0:=by rw[<-ai];exact(aw).alloc (by simp) _
 have x0:W0.heap[w.heap.size]?=zb (zd #[.bool false,zc za 0 0,zc za 0 0] 226 (0,0)):=by rw[<-ai];exact cX (aI _ _)
 have x1:W0.heap[w.heap.size+1]?=zb (zd #[.iface t x,ze .i64 gi] 264 (0,0)):=by rw[<-ai];exact Ge _ _ _
 have q0:W0.cell? ⟨w.heap.size+1,0,za⟩=zb (.iface t x):=(aM _ _ _ _ _ _ x1:W0.cell? ⟨w.heap.size+1,0,za⟩=_);have hc:=ih B n nw bt sv fv mk f fr F W0 (.iface t x) (h.below af) (aU.keep (.of af) p _ hl) zzT jH;have a1:=znJ;have a2:=znI;have a3:=znG;have a4:=znH;have a5:=ztK
 go_enter func163,ntmps163
 go_wp2_with fail
 refine hc.mono ?_;rintro e W ⟨n',ga,gl,b,sj,mL,mk',f',fr',F',A,L,rfl,hk,D⟩;have u0:=D.kp.dO _ _ _ x0 (by decide) (by decide) (by decide);obtain⟨k0,k1,k2,f0,f1,f2⟩:=ci u0;clear hc ai;go_wp2;refine bh (v:=zg #[.bool b,zc (zb ⟨ga,0,za⟩) nw nw,zc (zb ⟨gl,0,za⟩) nw nw]) (by simp[results,results163,go_sem,k0,k1,k2]) rfl ((D.start af (by omega)).ret u0 (aj _) gz hk)
theorem zqB(p q:Pt)(Mu:qB p)(Mv:qB q):qB (.seq p q):=by
 intro B n nw bt sv fv mk f fr F w v h hT hle hn;obtain⟨lv,rv,rfl,hl,hr⟩:=hT;have gz:=ql h.dv;have eV:bt<w.heap.size:=(ah.1 h.box).1;have cN:=h.bb;have kB:=(iP p _ hl).1;have uS:=(iP q _ hr).1;have IR:aE (.seq p q)=aE p+aE q:=by
  have e:aE (.seq p q)=cM (aE p+aE q):=rfl;rw[e]at hle ⊢;unfold cM at hle ⊢;split
  ·rfl
  ·rw[ak (by assumption)]at hle;omega
 have Sx:zk ((aE (.seq p q)).toNat=(aE p).toNat+(aE q).toNat):=by show _=_;omega
 have iW:aE p<=2000:=by omega
 have mS:aE q<=2000:=by omega
 have Bt:n+(aE p).toNat<=64*nw:=by omega
 have Ma:∀n',n'<=n+(aE p).toNat->n'+(aE q).toNat<=64*nw:=λn' hk=>by omega
 clear IR hle hn;obtain⟨t,x,rfl⟩:=je hl;obtain⟨t2,x2,rfl⟩:=je hr;obtain⟨W0,ai⟩:∃W0,(w.alloc (zd #[.bool false,zc za 0 0,zc za 0 0] 226)).alloc (zd #[.iface t x,.iface t2 x2] 256)=W0:=⟨_,rfl⟩;have af:zl w.heap.size w W0:=by rw[<-ai];exact(aw).alloc (by simp) _
 have x0:W0.heap[w.heap.size]?=zb (zd #[.bool false,zc za 0 0,zc za 0 0] 226 (0,0)):=by rw[<-ai];exact cX (aI _ _)
 have x1:W0.heap[w.heap.size+1]?=zb (zd #[.iface t x,.iface t2 x2] 256 (0,0)):=by rw[<-ai];exact Ge _ _ _
 have q0:W0.cell? ⟨w.heap.size+1,0,za⟩=zb (.iface t x):=(aM _ _ _ _ _ _ x1:W0.cell? ⟨w.heap.size+1,0,za⟩=_);have hc:=Mu B n nw bt sv fv mk f fr F W0 (.iface t x) (h.below af) (aU.keep (.of af) p _ hl) iW Bt;have a1:=znN;have a2:=ztM
 go_enter func163,ntmps163
 go_wp2_with fail
 refine hc.mono ?_;rintro e W2 ⟨n1,ga,gl,b,sj,mL,mk',f',fr',F',A,L,rfl,db,D1⟩;clear hc ai q0 a1 a2;have u0:=D1.kp.dO _ _ _ x0 (by decide) (by decide) (by decide);have u1:=D1.kp.dO _ _ _ x1 (by decide) (by decide) (by decide);obtain⟨W3,eN⟩:∃W3,W2.alloc (zd #[.bool b,zc (zb ⟨ga,0,za⟩) nw nw,zc (zb ⟨gl,0,za⟩) nw nw] 226)=W3:=⟨_,rfl⟩;have aG:zl W2.heap.size W2 W3:=by rw[<-eN];exact aw
 have v0:W3.heap[w.heap.size]?=_:=(aG.block _ (ah.1 u0).1).trans u0;have v1:W3.heap[w.heap.size+1]?=_:=(aG.block _ (ah.1 u1).1).trans u1;have v2:W3.heap[W2.heap.size]?=zb (zd #[.bool b,zc (zb ⟨ga,0,za⟩) nw nw,zc (zb ⟨gl,0,za⟩) nw nw] 226 (0,0)):=by rw[<-eN];exact aI _ _
 have c1:W3.cell? ⟨w.heap.size+1,1,za⟩=zb (.iface t2 x2):=(aM _ _ _ _ _ _ v1:W3.cell? ⟨w.heap.size+1,1,za⟩=_);obtain⟨d0,d1,d2,-,-,-⟩:=ci v2;have Bd:zl W2.heap.size W2 W3.drew:=aG.drew;have eW:=Mv B n1 nw bt sj mL mk' f' fr' F' W3.drew (.iface t2 x2) (D1.tk.below Bd) (aU.keep (.of Bd) q _ (aU.keep D1.kp.Mx q _ (aU.keep (.of af) q _ hr))) mS (Ma n1 db);have gA:zm prog 163 #[zj (zb ⟨bt,0,za⟩),.iface t2 x2] W3.drew λe W=>∃v,e=.returned v/\∃(n2 ha hl:Nat) (c:Bool),v=zg #[.bool c,zc (zb ⟨ha,0,za⟩) nw nw,zc (zb ⟨hl,0,za⟩) nw nw]/\zk (n2<=n+(aE (.seq p q)).toNat)/\(W.cell? ⟨W2.heap.size,0,za⟩=zb (.bool b)/\W.cell? ⟨W2.heap.size,1,za⟩=zb (zc (zb ⟨ga,0,za⟩) nw nw)/\W.cell? ⟨W2.heap.size,2,za⟩=zb (zc (zb ⟨gl,0,za⟩) nw nw))/\zk (W.heap[w.heap.size]?=zb (zd #[.bool false,zc za 0 0,zc za 0 0] 226 (0,0)))/\
   zm prog 187 #[zj (zb ⟨bt,0,za⟩),zg #[.bool b,zc (zb ⟨ga,0,za⟩) nw nw,zc (zb ⟨gl,0,za⟩) nw nw],zg #[.bool c,zc (zb ⟨ha,0,za⟩) nw nw,zc (zb ⟨hl,0,za⟩) nw nw]] W λe W5=>e=.returned (zg #[.bool (b&&c),zc (zb ⟨ga,0,za⟩) nw nw,zc (zb ⟨hl,0,za⟩) nw nw])/\jV B W0 n nw bt mk f fr F W5 n2 ga hl (b&&c) (cj (.seq p q) n)/\KU W W5:=by
  refine eW.mono ?_;rintro e W ⟨n2,ha,hl,c,Dw,oY,MH,f2,H9,F2,A',L',rfl,mP,D2⟩;refine⟨_,rfl,n2,ha,hl,c,rfl,?_,?_,D2.kp.dO _ _ _ v0 (by decide) (by decide) (by decide),by obtain rfl:n1=n+eF p:=D1.ED (lQ p n) (by omega);exact zqg (D1.pair Bd D2)⟩
  ·show n2<=_;rw[Sx.out];omega
  ·obtain⟨z0,z1,z2,-,-,-⟩:=ci (D2.kp.dO _ _ _ v2 (by decide) (by decide) (by decide));exact⟨z0,z1,z2⟩
 clear eW v1 v2 v0 u0 u1 x1 Ma Mu Mv D1 aG Bd h;go_wp2;clear eN
 go_region_law ((first|(refine BK (by rfl) 163 #[.tmp 29,.tmp 31] #[224,184] (by rfl) #[zj (zb ⟨bt,0,za⟩),.iface t2 x2] (by simp[Act.eval]) _ (Ni _ _) gA ?_;rintro _ W4 ⟨n2,ha,hl,c,rfl,fJ,⟨z0,z1,z2⟩,HX,mY⟩)|(refine DN (by rfl) 187 #[.tmp 27,.tmp 28,.tmp 32] #[224,226,226] (by rfl) _ (by simp[Act.eval]) _ _ (QO _ _) mY ?_;rintro W5 ⟨D5,o6⟩;have y0:=o6 _ _ _ HX.out (by decide);obtain⟨k0,k1,k2,f0,f1,f2⟩:=ci y0)))
 all_goals
  obtain⟨Wo,Tw,VX,f5,Tv,F5,A5,L5,D⟩:=D5;have Bv:=(D.start af (by omega)).ret y0 (aj _) gz fJ.out;clear gA mY D y0 o6 HX z0 z1 z2 d0 d1 d2 c1;go_wp2;exact bh (by simp[results,results163,go_sem,k0,k1,k2]) rfl Bv
theorem zqy(p q:Pt)(Mu:qB p)(Mv:qB q):qB (.aN p q):=by
 intro B n nw bt sv fv mk f fr F w v h hT hle hn;obtain⟨lv,rv,rfl,hl,hr⟩:=hT;have gz:=ql h.dv;have eV:bt<w.heap.size:=(ah.1 h.box).1;have cN:=h.bb;have kB:=(iP p _ hl).1;have uS:=(iP q _ hr).1;have IR:aE (.aN p q)=aE p+aE q:=by
  have e:aE (.aN p q)=cM (aE p+aE q):=rfl;rw[e]at hle ⊢;unfold cM at hle ⊢;split
  ·rfl
  ·rw[ak (by assumption)]at hle;omega
 have Sx:zk ((aE (.aN p q)).toNat=(aE p).toNat+(aE q).toNat):=by show _=_;omega
 have iW:aE p<=2000:=by omega
 have mS:aE q<=2000:=by omega
 have Bt:n+(aE p).toNat<=64*nw:=by omega
 have Ma:∀n',n'<=n+(aE p).toNat->n'+(aE q).toNat<=64*nw:=λn' hk=>by omega
 clear IR hle hn;obtain⟨t,x,rfl⟩:=je hl;obtain⟨t2,x2,rfl⟩:=je hr;obtain⟨W0,ai⟩:∃W0,(w.alloc (zd #[.bool false,zc za 0 0,zc za 0 0] 226)).alloc (zd #[.iface t x,.iface t2 x2] 258)=W0:=⟨_,rfl⟩;have af:zl w.heap.size w W0:=by rw[<-ai];exact(aw).alloc (by simp) _
 have x0:W0.heap[w.heap.size]?=zb (zd #[.bool false,zc za 0 0,zc za 0 0] 226 (0,0)):=by rw[<-ai];exact cX (aI _ _)
 have x1:W0.heap[w.heap.size+1]?=zb (zd #[.iface t x,.iface t2 x2] 258 (0,0)):=by rw[<-ai];exact Ge _ _ _
 have q0:W0.cell? ⟨w.heap.size+1,0,za⟩=zb (.iface t x):=(aM _ _ _ _ _ _ x1:W0.cell? ⟨w.heap.size+1,0,za⟩=_);have hc:=Mu B n nw bt sv fv mk f fr F W0 (.iface t x) (h.below af) (aU.keep (.of af) p _ hl) iW Bt;have a1:=znF;have a2:=znE;have a3:=ztJ
 go_enter func163,ntmps163
 go_wp2_with fail
 refine hc.mono ?_;rintro e W2 ⟨n1,ga,gl,b,sj,mL,mk',f',fr',F',A,L,rfl,db,D1⟩;clear hc ai q0 a1 a2 a3;have u0:=D1.kp.dO _ _ _ x0 (by decide) (by decide) (by decide);have u1:=D1.kp.dO _ _ _ x1 (by decide) (by decide) (by decide);obtain⟨W3,eN⟩:∃W3,W2.alloc (zd #[.bool b,zc (zb ⟨ga,0,za⟩) nw nw,zc (zb ⟨gl,0,za⟩) nw nw] 226)=W3:=⟨_,rfl⟩;have aG:zl W2.heap.size W2 W3:=by rw[<-eN];exact aw
 have v0:W3.heap[w.heap.size]?=_:=(aG.block _ (ah.1 u0).1).trans u0;have v1:W3.heap[w.heap.size+1]?=_:=(aG.block _ (ah.1 u1).1).trans u1;have v2:W3.heap[W2.heap.size]?=zb (zd #[.bool b,zc (zb ⟨ga,0,za⟩) nw nw,zc (zb ⟨gl,0,za⟩) nw nw] 226 (0,0)):=by rw[<-eN];exact aI _ _
 have c1:W3.cell? ⟨w.heap.size+1,1,za⟩=zb (.iface t2 x2):=(aM _ _ _ _ _ _ v1:W3.cell? ⟨w.heap.size+1,1,za⟩=_);obtain⟨d0,d1,d2,-,-,-⟩:=ci v2;have Bd:zl W2.heap.size W2 W3.drew:=aG.drew;have eW:=Mv B n1 nw bt sj mL mk' f' fr' F' W3.drew (.iface t2 x2) (D1.tk.below Bd) (aU.keep (.of Bd) q _ (aU.keep D1.kp.Mx q _ (aU.keep (.of af) q _ hr))) mS (Ma n1 db);have gA:zm prog 163 #[zj (zb ⟨bt,0,za⟩),.iface t2 x2] W3.drew λe W=>∃v,e=.returned v/\∃(n2 ha hl:Nat) (c:Bool),v=zg #[.bool c,zc (zb ⟨ha,0,za⟩) nw nw,zc (zb ⟨hl,0,za⟩) nw nw]/\zk (n2<=n+(aE (.aN p q)).toNat)/\(W.cell? ⟨W2.heap.size,0,za⟩=zb (.bool b)/\W.cell? ⟨W2.heap.size,1,za⟩=zb (zc (zb ⟨ga,0,za⟩) nw nw)/\W.cell? ⟨W2.heap.size,2,za⟩=zb (zc (zb ⟨gl,0,za⟩) nw nw))/\zk (W.heap[w.heap.size]?=zb (zd #[.bool false,zc za 0 0,zc za 0 0] 226 (0,0)))/\
   zm prog 188 #[zj (zb ⟨bt,0,za⟩),zg #[.bool b,zc (zb ⟨ga,0,za⟩) nw nw,zc (zb ⟨gl,0,za⟩) nw nw],zg #[.bool c,zc (zb ⟨ha,0,za⟩) nw nw,zc (zb ⟨hl,0,za⟩) nw nw]] W λe W5=>e=.returned (zg #[.bool (b || c),zc (zb ⟨ga,0,za⟩) nw nw,zc (zb ⟨gl,0,za⟩) nw nw])/\jV B W0 n nw bt mk f fr F W5 n2 ga gl (b || c) (cj (.aN p q) n)/\KU W W5:=by
  refine eW.mono ?_;rintro e W ⟨n2,ha,hl,c,Dw,oY,MH,f2,H9,F2,A',L',rfl,mP,D2⟩;refine⟨_,rfl,n2,ha,hl,c,rfl,?_,?_,D2.kp.dO _ _ _ v0 (by decide) (by decide) (by decide),by obtain rfl:n1=n+eF p:=D1.ED (lQ p n) (by omega);exact zsP (D1.pair Bd D2)⟩
  ·show n2<=_;rw[Sx.out];omega
  ·obtain⟨z0,z1,z2,-,-,-⟩:=ci (D2.kp.dO _ _ _ v2 (by decide) (by decide) (by decide));exact⟨z0,z1,z2⟩
 clear eW v1 v2 v0 u0 u1 x1 Ma Mu Mv D1 aG Bd h;go_wp2;clear eN
 go_region_law ((first|(refine BK (by rfl) 163 #[.tmp 43,.tmp 45] #[224,184] (by rfl) #[zj (zb ⟨bt,0,za⟩),.iface t2 x2] (by simp[Act.eval]) _ (Ni _ _) gA ?_;rintro _ W4 ⟨n2,ha,hl,c,rfl,fJ,⟨z0,z1,z2⟩,HX,mY⟩)|(refine DN (by rfl) 188 #[.tmp 41,.tmp 42,.tmp 46] #[224,226,226] (by rfl) _ (by simp[Act.eval]) _ _ (zk0 _ _) mY ?_;rintro W5 ⟨D5,o6⟩;have y0:=o6 _ _ _ HX.out (by decide);obtain⟨k0,k1,k2,f0,f1,f2⟩:=ci y0)))
 all_goals
  obtain⟨Wo,Tw,VX,f5,Tv,F5,A5,L5,D⟩:=D5;have Bv:=(D.start af (by omega)).ret y0 (aj _) gz fJ.out;clear gA mY D y0 o6 HX z0 z1 z2 d0 d1 d2 c1;go_wp2;exact bh (by simp[results,results163,go_sem,k0,k1,k2]) rfl Bv
section
variable {B n nw bt n' ga gl k:Nat}{w W:zf}{mk fr:Nat -> Nat}{f:Nat -> Nat -> Bool}{F:Nat -> Nat -> Nat}{b:Bool}{M:PA}{v:zh}
def GC(B:Nat)(w:zf)(n nw bt:Nat)(mk:Nat->Nat)(f:Nat->Nat->Bool)(fr:Nat->Nat)(F:Nat->Nat->Nat)(r N:Nat)(M:PA)(W:zf):Prop:=
 ∃(n' ga gl:Nat) (b:Bool),W.heap[r]?=zb (zd #[.bool b,zc (zb ⟨ga,0,za⟩) nw nw,zc (zb ⟨gl,0,za⟩) nw nw] 226 (0,0))/\n'<=n+N/\jV B w n nw bt mk f fr F W n' ga gl b M
theorem jV.se{o:Nat}{cs:Array zh}
  (h:jV B w n nw bt mk f fr F W n' ga gl b M) (hb:W.heap[k]?=zb (zd cs 226 (0,0))) (h0:w.heap.size<=k) (h1:0<w.heap.size):jV B w n nw bt mk f fr F (W.setCell ⟨k,o,za⟩ v) n' ga gl b M:=by
 obtain⟨sv,fv,mk',f',fr',F',A,L,D⟩:=h;exact⟨sv,fv,mk',f',fr',F',A,L,D.se hb h0 h1⟩
theorem jV.uZ
  (h:jV B w n nw bt mk f fr F W n' ga gl b M):jV B w n nw bt mk f fr F W n' ga gl true (PA.uZ M):=by
 obtain⟨sv,fv,mk',f',fr',F',A,L,D⟩:=h;exact⟨sv,fv,mk',f',fr',F',A,L,D.uZ⟩
theorem jV.words{N:PA}
  (h:jV B w n nw bt mk f fr F W n' ga gl b M) (hl:M=N):jV B w n nw bt mk f fr F W n' ga gl b N:=by
 obtain⟨sv,fv,mk',f',fr',F',A,L,D⟩:=h;exact⟨sv,fv,mk',f',fr',F',A,L,D.words hl⟩
theorem jV.ED
  (h:jV B w n nw bt mk f fr F W n' ga gl b M) (hM:∀q,M.D q↔n<=q/\q<k) (hk:n<=k):n'=k:=by
 obtain⟨sv,fv,mk',f',fr',F',A,L,D⟩:=h;exact D.ED hM hk
theorem jV.kp
  (h:jV B w n nw bt mk f fr F W n' ga gl b M):Kp B w W:=by
 obtain⟨sv,fv,mk',f',fr',F',A,L,D⟩:=h;exact D.kp
theorem jV.Qd{x y z:zh}
  (h:jV B w n nw bt mk f fr F W n' ga gl b M) (hb:W.heap[k]?=zb (zd #[x,y,z] 226 (0,0))) (h0:w.heap.size<=k) (h1:0<w.heap.size) (v0 v1 v2:zh):
  jV B w n nw bt mk f fr F (((W.setCell ⟨k,0,za⟩ v0).setCell ⟨k,1,za⟩ v1).setCell ⟨k,2,za⟩ v2) n' ga gl b M/\(((W.setCell ⟨k,0,za⟩ v0).setCell ⟨k,1,za⟩ v1).setCell ⟨k,2,za⟩ v2).heap[k]?=zb (zd #[v0,v1,v2] 226 (0,0)):=by
 have r1:=dE _ _ 0 _ _ v0 hb;have r2:=dE _ _ 1 _ _ v1 r1;have r3:=dE _ _ 2 _ _ v2 r2;exact⟨((h.se hb h0 h1).se r1 h0 h1).se r2 h0 h1,r3⟩
def ztH(B:Nat)(w:zf)(n nw bt:Nat)(mk:Nat->Nat)(f:Nat->Nat->Bool)(fr:Nat->Nat)(F:Nat->Nat->Nat)(r N ga gl:Nat)(b:Bool)(p:Pt)(s:Nat)(M:PA)(v:zh)(W:zf):Prop:=
 ∃(n2 ha hl:Nat) (c:Bool),v=zg #[.bool c,zc (zb ⟨ha,0,za⟩) nw nw,zc (zb ⟨hl,0,za⟩) nw nw]/\zk (n2<=n+(N+(aE p).toNat))/\(W.cell? ⟨r,0,za⟩=zb (.bool b)/\W.cell? ⟨r,1,za⟩=zb (zc (zb ⟨ga,0,za⟩) nw nw)/\W.cell? ⟨r,2,za⟩=zb (zc (zb ⟨gl,0,za⟩) nw nw))/\zk (W.heap[r]?=zb (zd #[.bool b,zc (zb ⟨ga,0,za⟩) nw nw,zc (zb ⟨gl,0,za⟩) nw nw] 226 (0,0)))/\
  zm prog 187 #[zj (zb ⟨bt,0,za⟩),zg #[.bool c,zc (zb ⟨ha,0,za⟩) nw nw,zc (zb ⟨hl,0,za⟩) nw nw],zg #[.bool b,zc (zb ⟨ga,0,za⟩) nw nw,zc (zb ⟨gl,0,za⟩) nw nw]] W λe W5=>e=.returned (zg #[.bool (c&&b),zc (zb ⟨ha,0,za⟩) nw nw,zc (zb ⟨gl,0,za⟩) nw nw])/\jV B w n nw bt mk f fr F W5 n2 ha gl (c&&b) (PA.seq (cj p s) M)/\KU W W5
theorem Yf{r N:Nat}{p:Pt}(ih:qB p)(hT:aU w v p)(hle:aE p<=2000)
  (hX:jV B w n nw bt mk f fr F W n' ga gl b M) (hr:W.heap[r]?=zb (zd #[.bool b,zc (zb ⟨ga,0,za⟩) nw nw,zc (zb ⟨gl,0,za⟩) nw nw] 226 (0,0))) (hn:n'<=n+N) (hN:n+(N+(aE p).toNat)<=64*nw) {s:Nat} (hs:n'=s):
  zm prog 163 #[zj (zb ⟨bt,0,za⟩),v] W.drew λe W4=>∃v,e=.returned v/\ztH B w n nw bt mk f fr F r N ga gl b p s M v W4:=by
 subst hs;obtain⟨sv,fv,mk',f',fr',F',A,L,D⟩:=hX;have hb:zl W.heap.size W W.drew:=(Below.refl _ _).drew;refine(ih B n' nw bt sv fv mk' f' fr' F' W.drew v (D.tk.below hb) (aU.keep (.of hb) p _ (aU.keep D.kp.Mx p _ hT)) hle (by omega)).mono ?_;rintro e W4 ⟨n2,ha,hl,c,Dw,oY,MH,f2,H9,F2,A',L',rfl,mP,D2⟩;have n9:=D2.kp.dO r _ _ hr (by decide) (by decide) (by decide);obtain⟨z0,z1,z2,-,-,-⟩:=ci n9;exact⟨_,rfl,n2,ha,hl,c,rfl,by show n2<=_;omega,⟨z0,z1,z2⟩,n9,zqg (D.pair hb D2).swap⟩
end
theorem zkZ(p:Pt)(ih:qB p)(m d e:Nat)(tH:e=m+d)(he:e<=255)(B n nw bt:Nat)(sv fv:zh)(mk:Nat->Nat)(f:Nat->Nat->Bool)(fr:Nat->Nat)(F:Nat->Nat->Nat)(w:zf)(t:zn)(x:zh)(h:ji B w n nw bt sv fv mk f fr F)(hT:aU w (.iface t x) p)(hle:aE p<=2000)(hn:n+e*(aE p).toNat<=64*nw):
  zm prog 189 #[zj (zb ⟨bt,0,za⟩),zg #[.iface t x,ze .i64 m,ze .i64 e]] w λr W=>AD B w n nw bt mk f fr F (e*(aE p).toNat) (cj (.az p m e) n) r W:=by
 have gz:=ql h.dv;have eV:bt<w.heap.size:=(ah.1 h.box).1;have cN:=h.bb;have bY:=h.ic;obtain⟨W0,ai⟩:∃W0,(w.alloc (zd #[.iface t x,ze .i64 m,ze .i64 e] 261)).alloc (zd #[.bool false,zc za 0 0,zc za 0 0] 226)=W0:=⟨_,rfl⟩;have af:zl w.heap.size w W0:=by rw[<-ai];exact(aw).alloc (by simp) _
 have x0:W0.heap[w.heap.size]?=zb (zd #[.iface t x,ze .i64 m,ze .i64 e] 261 (0,0)):=by rw[<-ai];exact cX (aI _ _)
 have x1:W0.heap[w.heap.size+1]?=zb (zd #[.bool false,zc za 0 0,zc za 0 0] 226 (0,0)):=by rw[<-ai];exact Ge _ _ _
 have dD:=af.size;have h0:=h.below af;have lU:=aU.keep (.of af) p _ hT;have bQ:=Ym nw bt true sv fv W0 h0.box bY;have hne:((e:Int) == -1)=false:=by simp
 have zxA:(e:Int)-(m:Int)=(d:Int):=by omega
 have Kj:zk (∀a b:Nat,a+b<=e->a*(aE p).toNat+b*(aE p).toNat<=e*(aE p).toNat):=λa b zi=>by rw[<-Nat.add_mul];exact Nat.mul_le_mul_right _ zi
 have yP:zk (e=m+d):=tH;have zBb:d<=255:=by omega
 have zzZ:m<=255:=by omega
 clear tH
 go_enter func189,ntmps189
 go_wp2_with fail
 refine bQ.mono ?_;rintro e1 W1 ⟨ga,gl,rfl,na,nl,fC,ag⟩;clear bQ ai;obtain⟨W2,dk⟩:∃W2,W1.alloc (zd #[.bool true,zc (zb ⟨ga,0,za⟩) nw nw,zc (zb ⟨gl,0,za⟩) nw nw] 226)=W2:=⟨_,rfl⟩;have ae:zl W1.heap.size W1 W2:=by rw[<-dk];exact aw
 have r2:W2.heap[W1.heap.size]?=zb (zd #[.bool true,zc (zb ⟨ga,0,za⟩) nw nw,zc (zb ⟨gl,0,za⟩) nw nw] 226 (0,0)):=by rw[<-dk];exact aI _ _
 have D0:=((fM.bare h0 true na nl fC ag).below ae).words (N:=yi (cj p) (eF p) n 0) rfl;have hX:GC B W0 n nw bt mk f fr F W1.heap.size (0*(aE p).toNat) (yi (cj p) (eF p) n 0) W2:=⟨n,ga,gl,true,r2,by omega,_,_,_,_,_,_,_,_,D0⟩;have dH:=ag.size;have y0:=D0.kp.dO _ _ _ x0 (by decide) (by decide) (by decide);obtain⟨c0,c1,c2,-,-,-⟩:=ci y0;clear D0 r2 fC y0 ag ae na nl h h0 hT;have Hn:zk (n+e*(aE p).toNat<=64*nw):=hn;have Fh:W0.heap.size<=W1.heap.size:=dH;have mR:0<W0.heap.size:=by omega
 clear hn dH;go_wp2;clear dk c0 c1 c2
 go_loopw [27] (λi wr=>∃j:Nat,j<=d/\i=ze .i64 j/\GC B W0 n nw bt mk f fr F W1.heap.size (j*(aE p).toNat) (yi (cj p) (eF p) n j) wr)
  (λi _=>d-(intOf i).toNat)
 case atStart=>exact⟨0,aR _,rfl,hX⟩
 case round=>
  obtain⟨j,hj,rfl,n',Ty,vT,b,hr,jH,dJ⟩:=hrel
  by_cases hlt:j<d
  ·have Hj:=Kj.out j 1 (by have:=yP.out;omega);have hw:=Yf ih lU hle dJ hr jH (by have:=Hn.out;omega) (dJ.ED (JU (lQ p) n j) (by omega));have yk:=dJ.kp.dO _ _ _ x0 (by decide) (by decide) (by decide);have c0:wr.cell? ⟨w.heap.size,0,za⟩=zb (.iface t x):=(ci yk).1;obtain⟨d0,d1,d2,-,-,-⟩:=ci hr;have da:(0:Int)<=(j:Int):=by omega
   have cO:(j:Int)<(d:Int):=by omega
   have Kg:zk (j*(aE p).toNat+(aE p).toNat=(j+1)*(aE p).toNat):=by show _=_;rw[Nat.add_mul,Nat.one_mul]
   clear Hj hX dJ yk hr jH;go_wp2
   go_region_law ((first|(refine BK (by rfl) 163 #[.tmp 30,.tmp 32] #[224,184] (by rfl) #[zj (zb ⟨bt,0,za⟩),.iface t x] (by simp[Act.eval]) _ (Ni _ _) hw ?_;rintro _ W4 ⟨n2,ha,hl,c,rfl,fJ,⟨z0,z1,z2⟩,HX,mY⟩)|(refine DN (by rfl) 187 #[.tmp 29,.tmp 33,.tmp 34] #[224,226,226] (by rfl) _ (by simp[Act.eval]) _ _ (QO _ _) mY ?_;rintro W5 ⟨D5,o6⟩;have y0:=o6 _ _ _ HX.out (by decide);obtain⟨k0,k1,k2,f0,f1,f2⟩:=ci y0)))
   all_goals
    obtain⟨q5,q6⟩:=D5.Qd y0 Fh mR (.bool (c&&b)) (zc (zb ⟨ha,0,za⟩) nw nw) (zc (zb ⟨vT,0,za⟩) nw nw);clear hw mY y0 o6 HX z0 z1 z2 d0 d1 d2 c0 D5 k0 k1 k2 f0 f1 f2;generalize ((W5.setCell ⟨W1.heap.size,0,za⟩ (.bool (c&&b))).setCell ⟨W1.heap.size,1,za⟩ (zc (zb ⟨ha,0,za⟩) nw nw)).setCell ⟨W1.heap.size,2,za⟩ (zc (zb ⟨vT,0,za⟩) nw nw)=W6 at *;obtain⟨k0,-,-,f0,-,-⟩:=ci q6;go_wp2
    go_roundw
    case rel=>exact⟨j+1,by omega,by go_num,n2,ha,vT,true,dE _ _ 0 _ _ _ q6,by have:=fJ.out;have:=Kg.out;omega,((q5.se q6 Fh mR).uZ).words rfl⟩
    case measure=>simp[intOf];omega
  ·have hjd:j=d:=by omega
   subst hjd;have yk:=dJ.kp.dO _ _ _ x0 (by decide) (by decide) (by decide);have c1:wr.cell? ⟨w.heap.size,1,za⟩=zb (ze .i64 m):=(ci yk).2.1;have Lf:GC B W0 n nw bt mk f fr F W1.heap.size (j*(aE p).toNat) (vK (cj p) (eF p) (yi (cj p) (eF p) n j) (n+j*eF p) 0) wr:=⟨n',Ty,vT,b,hr,jH,dJ.words rfl⟩;clear dJ hr jH yk hX;go_wp2;clear c1
   go_loopw [40] (λi wr=>∃k:Nat,k<=m/\i=ze .i64 k/\GC B W0 n nw bt mk f fr F W1.heap.size ((j+k)*(aE p).toNat) (vK (cj p) (eF p) (yi (cj p) (eF p) n j) (n+j*eF p) k) wr)
    (λi _=>m-(intOf i).toNat)
   case atStart=>exact⟨0,aR _,rfl,Lf⟩
   case round=>
    clear Lf;obtain⟨k,hk,rfl,n',Ty,vT,b,hr,jH,dJ⟩:=hrel
    by_cases hlt:k<m
    ·have Hj:=Kj.out (j+k) 1 (by have:=yP.out;omega);have hw:=Yf ih lU hle dJ hr jH (by have:=Hn.out;omega) (dJ.ED (JT (lQ p) (JU (lQ p) n j) (by omega) k) (by omega));have yk:=dJ.kp.dO _ _ _ x0 (by decide) (by decide) (by decide);have c0:wr.cell? ⟨w.heap.size,0,za⟩=zb (.iface t x):=(ci yk).1;obtain⟨d0,d1,d2,-,-,-⟩:=ci hr;have da:(0:Int)<=(k:Int):=by omega
     have cO:(k:Int)<(m:Int):=by omega
     have Kg:zk ((j+k)*(aE p).toNat+(aE p).toNat=(j+(k+1))*(aE p).toNat):=by show _=_;rw[<-Nat.add_assoc,Nat.add_mul _ 1,Nat.one_mul]
     clear Hj dJ yk hr jH;go_wp2
     go_region_law ((first|(refine BK (by rfl) 163 #[.tmp 43,.tmp 45] #[224,184] (by rfl) #[zj (zb ⟨bt,0,za⟩),.iface t x] (by simp[Act.eval]) _ (Ni _ _) hw ?_;rintro _ W4 ⟨n2,ha,hl,c,rfl,fJ,⟨z0,z1,z2⟩,HX,mY⟩)|(refine DN (by rfl) 187 #[.tmp 42,.tmp 46,.tmp 47] #[224,226,226] (by rfl) _ (by simp[Act.eval]) _ _ (QO _ _) mY ?_;rintro W5 ⟨D5,o6⟩;have y0:=o6 _ _ _ HX.out (by decide);obtain⟨k0,k1,k2,f0,f1,f2⟩:=ci y0)))
     all_goals
      obtain⟨q5,q6⟩:=D5.Qd y0 Fh mR (.bool (c&&b)) (zc (zb ⟨ha,0,za⟩) nw nw) (zc (zb ⟨vT,0,za⟩) nw nw);clear hw mY y0 o6 HX z0 z1 z2 d0 d1 d2 c0 D5 k0 k1 k2 f0 f1 f2;generalize ((W5.setCell ⟨W1.heap.size,0,za⟩ (.bool (c&&b))).setCell ⟨W1.heap.size,1,za⟩ (zc (zb ⟨ha,0,za⟩) nw nw)).setCell ⟨W1.heap.size,2,za⟩ (zc (zb ⟨vT,0,za⟩) nw nw)=W6 at *;go_wp2
      go_roundw
      case rel=>exact⟨k+1,by omega,by go_num,n2,ha,vT,c&&b,q6,by have:=fJ.out;have:=Kg.out;omega,q5.words rfl⟩
      case measure=>simp[intOf];omega
    ·have IG:k=m:=by omega
     subst IG;obtain⟨Wo,Tw,VX,f5,Tv,F5,A5,L5,D⟩:=dJ;have yk:=D.kp.dO _ _ _ x1 (by decide) (by decide) (by decide);obtain⟨k0,k1,k2,f0,f1,f2⟩:=ci yk;obtain⟨d0,d1,d2,-,-,-⟩:=ci hr;have Bv:=((D.start af (by omega)).words (N:=cj (.az p (k:Int) (e:Int)) n) (by rw[yP.out];exact zkf n p k j)).ret (m:=e*(aE p).toNat) yk (by omega) gz (by rw[yP.out,Nat.add_comm k j];exact jH);clear D yk hr;go_wp2;exact bh (by simp[results,results189,go_sem,k0,k1,k2]) rfl Bv
theorem zkY(p:Pt)(ih:qB p)(m e:Nat)(tH:e=m+1)(he:m<=255)(B n nw bt:Nat)(sv fv:zh)(mk:Nat->Nat)(f:Nat->Nat->Bool)(fr:Nat->Nat)(F:Nat->Nat->Nat)(w:zf)(t:zn)(x:zh)(h:ji B w n nw bt sv fv mk f fr F)(hT:aU w (.iface t x) p)(hle:aE p<=2000)(hn:n+e*(aE p).toNat<=64*nw):
  zm prog 189 #[zj (zb ⟨bt,0,za⟩),zg #[.iface t x,ze .i64 m,ze .i64 (-1)]] w λr W=>AD B w n nw bt mk f fr F (e*(aE p).toNat) (cj (.az p m (-1)) n) r W:=by
 have gz:=ql h.dv;have eV:bt<w.heap.size:=(ah.1 h.box).1;have cN:=h.bb;have bY:=h.ic;obtain⟨W0,ai⟩:∃W0,(w.alloc (zd #[.iface t x,ze .i64 m,ze .i64 (-1)] 261)).alloc (zd #[.bool false,zc za 0 0,zc za 0 0] 226)=W0:=⟨_,rfl⟩;have af:zl w.heap.size w W0:=by rw[<-ai];exact(aw).alloc (by simp) _
 have x0:W0.heap[w.heap.size]?=zb (zd #[.iface t x,ze .i64 m,ze .i64 (-1)] 261 (0,0)):=by rw[<-ai];exact cX (aI _ _)
 have x1:W0.heap[w.heap.size+1]?=zb (zd #[.bool false,zc za 0 0,zc za 0 0] 226 (0,0)):=by rw[<-ai];exact Ge _ _ _
 have dD:=af.size;have h0:=h.below af;have lU:=aU.keep (.of af) p _ hT;have bQ:=Ym nw bt true sv fv W0 h0.box bY;have Kj:zk (∀a b:Nat,a+b<=e->a*(aE p).toNat+b*(aE p).toNat<=e*(aE p).toNat):=λa b zi=>by rw[<-Nat.add_mul];exact Nat.mul_le_mul_right _ zi
 have yP:zk (e=m+1):=tH;have zzZ:m<=255:=by omega
 clear tH
 go_enter func189,ntmps189
 go_wp2_with fail
 refine bQ.mono ?_;rintro e1 W1 ⟨ga,gl,rfl,na,nl,fC,ag⟩;clear bQ ai;obtain⟨W2,dk⟩:∃W2,W1.alloc (zd #[.bool true,zc (zb ⟨ga,0,za⟩) nw nw,zc (zb ⟨gl,0,za⟩) nw nw] 226)=W2:=⟨_,rfl⟩;have ae:zl W1.heap.size W1 W2:=by rw[<-dk];exact aw
 have r2:W2.heap[W1.heap.size]?=zb (zd #[.bool true,zc (zb ⟨ga,0,za⟩) nw nw,zc (zb ⟨gl,0,za⟩) nw nw] 226 (0,0)):=by rw[<-dk];exact aI _ _
 have D0:=(fM.bare h0 true na nl fC ag).below ae;have dH:=ag.size;have y0:=D0.kp.dO _ _ _ x0 (by decide) (by decide) (by decide);obtain⟨c0,c1,c2,-,-,-⟩:=ci y0;have Hn:zk (n+e*(aE p).toNat<=64*nw):=hn;have Fh:W0.heap.size<=W1.heap.size:=dH;have mR:0<W0.heap.size:=by omega
 have jF:zl W0.heap.size W0 W2:=ag.trans (ae.mono dH);have rV:=Kj.out 1 0 (by have:=yP.out;omega);have hc:=ih B n nw bt sv fv mk f fr F W2 (.iface t x) (h0.below jF) (aU.keep (.of jF) p _ lU) hle (by omega);clear hn dH D0 fC y0 ag ae na nl h h0 hT
 go_wp2_with fail
 refine hc.mono ?_;rintro e3 W3 ⟨n1,ha,hl,c,sv3,fv3,mk3,f3,fr3,F3,A3,L3,rfl,rS,D3⟩;clear hc dk c0 c1 c2;have r3:=D3.kp.dO _ _ _ r2 (by decide) (by decide) (by decide);have Y2:=D3.start jF (by omega);obtain⟨k0,k1,k2,f0,f1,f2⟩:=ci r3;obtain⟨⟨sv4,fv4,mk4,f4,fr4,F4,A4,L4,q5⟩,q6⟩:=jV.Qd ⟨_,_,_,_,_,_,_,_,Y2⟩ r3 Fh mR (.bool c) (zc (zb ⟨ha,0,za⟩) nw nw) (zc (zb ⟨hl,0,za⟩) nw nw);have qL:=zsi q5;obtain⟨W4,rL⟩:∃W4,((W3.setCell ⟨W1.heap.size,0,za⟩ (.bool c)).setCell ⟨W1.heap.size,1,za⟩ (zc (zb ⟨ha,0,za⟩) nw nw)).setCell ⟨W1.heap.size,2,za⟩ (zc (zb ⟨hl,0,za⟩) nw nw)=W4:=⟨_,rfl⟩;rw[rL]at qL q6 q5;have y4:=q5.kp.dO _ _ _ x0 (by decide) (by decide) (by decide);obtain⟨d0,d1,d2,-,-,-⟩:=ci q6;clear D3 Y2 r3 r2 q5
 go_wp2_with fail
 refine qL.mono ?_;rintro e5 W5 ⟨rfl,hX5,o6⟩;clear qL rL k0 k1 k2 f0 f1 f2 d0 d1 d2;have r5:=o6 _ _ _ q6 (by decide);have y5:=o6 _ _ _ y4 (by decide);obtain⟨k0,-,-,f0,-,-⟩:=ci r5;have T3:=hX5.se (o:=0) (v:=.bool true) r5 Fh mR;have r6:=dE _ _ 0 _ _ (.bool true) r5;have y6:=T3.kp.dO _ _ _ x0 (by decide) (by decide) (by decide);obtain⟨-,c1,c2,-,-,-⟩:=ci y6;have zxA:(-1:Int)-(m:Int)=-((m:Int)+1):=by omega
 clear q6 y4 y5 hX5 o6 r5;go_wp2;generalize lE:W5.setCell ⟨W1.heap.size,0,za⟩ (.bool true)=W6 at *;clear lE k0 f0 c1 c2
 go_loopw [27] (λi wr=>i=ze .i64 0/\wr=W6) (λ_ _=>0)
 case atStart=>exact⟨rfl,rfl⟩
 case round=>
   obtain⟨rfl,rfl⟩:=hrel;have ky:¬(0:Int) < -((m:Int)+1):=by omega
   have yk:=T3.kp.dO _ _ _ x0 (by decide) (by decide) (by decide);have c1:wr.cell? ⟨w.heap.size,1,za⟩=zb (ze .i64 m):=(ci yk).2.1;have Lf:GC B W0 n nw bt mk f fr F W1.heap.size (1*(aE p).toNat) (vK (cj p) (eF p) (PA.star (cj p n)) (n+1*eF p) 0) wr:=⟨n1,ha,hl,true,r6,by omega,T3.words rfl⟩;clear yk;go_wp2;clear c1
   go_loopw [40] (λi wr=>∃k:Nat,k<=m/\i=ze .i64 k/\GC B W0 n nw bt mk f fr F W1.heap.size ((1+k)*(aE p).toNat) (vK (cj p) (eF p) (PA.star (cj p n)) (n+1*eF p) k) wr)
    (λi _=>m-(intOf i).toNat)
   case atStart=>exact⟨0,aR _,rfl,Lf⟩
   case round=>
    clear Lf;obtain⟨k,hk,rfl,n',Ty,vT,b,hr,jH,dJ⟩:=hrel
    by_cases hlt:k<m
    ·have Hj:=Kj.out (1+k) 1 (by have:=yP.out;omega);have hw:=Yf ih lU hle dJ hr jH (by have:=Hn.out;omega) (dJ.ED (JT (lQ p) (zsG p n) (by omega) k) (by omega));have yk:=dJ.kp.dO _ _ _ x0 (by decide) (by decide) (by decide);have c0:wr.cell? ⟨w.heap.size,0,za⟩=zb (.iface t x):=(ci yk).1;obtain⟨d0,d1,d2,-,-,-⟩:=ci hr;have da:(0:Int)<=(k:Int):=by omega
     have cO:(k:Int)<(m:Int):=by omega
     have Kg:zk ((1+k)*(aE p).toNat+(aE p).toNat=(1+(k+1))*(aE p).toNat):=by show _=_;rw[<-Nat.add_assoc,Nat.add_mul _ 1,Nat.one_mul]
     clear Hj dJ yk hr jH;go_wp2
     go_region_law ((first|(refine BK (by rfl) 163 #[.tmp 43,.tmp 45] #[224,184] (by rfl) #[zj (zb ⟨bt,0,za⟩),.iface t x] (by simp[Act.eval]) _ (Ni _ _) hw ?_;rintro _ W4 ⟨n2,ha,hl,c,rfl,fJ,⟨z0,z1,z2⟩,HX,mY⟩)|(refine DN (by rfl) 187 #[.tmp 42,.tmp 46,.tmp 47] #[224,226,226] (by rfl) _ (by simp[Act.eval]) _ _ (QO _ _) mY ?_;rintro W5 ⟨D5,o6⟩;have y0:=o6 _ _ _ HX.out (by decide);obtain⟨k0,k1,k2,f0,f1,f2⟩:=ci y0)))
     all_goals
      obtain⟨q5,q6⟩:=D5.Qd y0 Fh mR (.bool (c&&b)) (zc (zb ⟨ha,0,za⟩) nw nw) (zc (zb ⟨vT,0,za⟩) nw nw);clear hw mY y0 o6 HX z0 z1 z2 d0 d1 d2 c0 D5 k0 k1 k2 f0 f1 f2;generalize ((W5.setCell ⟨W1.heap.size,0,za⟩ (.bool (c&&b))).setCell ⟨W1.heap.size,1,za⟩ (zc (zb ⟨ha,0,za⟩) nw nw)).setCell ⟨W1.heap.size,2,za⟩ (zc (zb ⟨vT,0,za⟩) nw nw)=W6 at *;go_wp2
      go_roundw
      case rel=>exact⟨k+1,by omega,by go_num,n2,ha,vT,c&&b,q6,by have:=fJ.out;have:=Kg.out;omega,q5.words rfl⟩
      case measure=>simp[intOf];omega
    ·have IG:k=m:=by omega
     subst IG;obtain⟨Wo,Tw,VX,f5,Tv,F5,A5,L5,D⟩:=dJ;have yk:=D.kp.dO _ _ _ x1 (by decide) (by decide) (by decide);obtain⟨k0,k1,k2,f0,f1,f2⟩:=ci yk;obtain⟨d0,d1,d2,-,-,-⟩:=ci hr;have Bv:=((D.start af (by omega)).words (N:=cj (.az p (k:Int) (-1)) n) (zke n p k)).ret (m:=e*(aE p).toNat) yk (by omega) gz (by rw[yP.out,Nat.add_comm k 1];exact jH);clear D yk hr;go_wp2;exact bh (by simp[results,results189,go_sem,k0,k1,k2]) rfl Bv
theorem AD.wide{B:Nat}{w:zf}{n nw bt:Nat}{mk:Nat->Nat}{f:Nat->Nat->Bool}{fr:Nat->Nat}{F:Nat->Nat->Nat}{k k':Nat}{M:PA}{e:Ending}{W:zf}(h:AD B w n nw bt mk f fr F k M e W)(hk:k<=k'):AD B w n nw bt mk f fr F k' M e W:=by
 obtain⟨n',ga,gl,b,sv,fv,mk',f',fr',F',A,L,h1,h2,h3⟩:=h;exact⟨n',ga,gl,b,sv,fv,mk',f',fr',F',A,L,h1,by omega,h3⟩
theorem zna(p:Pt)(ih:qB p)(mn mx:Int)(dV:fj mn mx=true)(B n nw bt:Nat)(sv fv:zh)(mk:Nat->Nat)(f:Nat->Nat->Bool)(fr:Nat->Nat)(F:Nat->Nat->Nat)(w:zf)(t:zn)(x:zh)(h:ji B w n nw bt sv fv mk f fr F)(hT:aU w (.iface t x) p)(hle:aE (.az p mn mx)<=2000)(hn:n+(aE (.az p mn mx)).toNat<=64*nw):
  zm prog 189 #[zj (zb ⟨bt,0,za⟩),zg #[.iface t x,ze .i64 mn,ze .i64 mx]] w λr W=>AD B w n nw bt mk f fr F (aE (.az p mn mx)).toNat (cj (.az p mn mx) n) r W:=by
 have kB:=(iP p _ hT).1;have hc:=FY dV;have e:aE (.az p mn mx)=cM (aE p*ed mn mx):=rfl;have hw:aE (.az p mn mx)=aE p*ed mn mx:=by
  rw[e]at hle ⊢;unfold cM at hle ⊢;split
  ·rfl
  ·rw[ak (by assumption)]at hle;omega
 rw[hw]at hle hn ⊢;clear e hw;obtain⟨wb,tO⟩:∃wb:Nat,aE p=wb:=⟨(aE p).toNat,by omega⟩;obtain⟨c,hcc⟩:∃c:Nat,ed mn mx=c:=⟨(ed mn mx).toNat,by omega⟩;have PV:(aE p).toNat=wb:=by omega
 have zAb:aE p*ed mn mx=((c*wb:Nat):Int):=by rw[tO,hcc,Int.mul_comm];simp
 rw[zAb]at hle hn ⊢;rw[sM]at hn ⊢;have zxs:aE p<=2000:=by
  have h1:1*wb<=c*wb:=Nat.mul_le_mul_right _ (by omega);omega
 have zwx:=dV;simp[fj]at zwx;obtain⟨⟨h1,h2⟩,h3⟩:=zwx;obtain⟨m,rfl⟩:∃m:Nat,mn=m:=⟨mn.toNat,by omega⟩
 by_cases hx:mx=-1
 ·subst hx;have qH:c=m+1:=by
   unfold ed at hcc;rw[aC rfl]at hcc;omega
  have:=zkY p ih m c qH (by omega) B n nw bt sv fv mk f fr F w t x h hT zxs (by rw[PV];exact hn);rw[PV]at this;exact this
 ·obtain⟨ee,rfl⟩:∃ee:Nat,mx=ee:=⟨mx.toNat,by omega⟩;have hce:ee<=c:=by
   unfold ed at hcc;rw[ak hx]at hcc;split at hcc<;>omega
  have hmul:ee*wb<=c*wb:=Nat.mul_le_mul_right _ hce;have:=zkZ p ih m (ee-m) ee (by omega) (by omega) B n nw bt sv fv mk f fr F w t x h hT zxs (by rw[PV];omega);rw[PV]at this;exact this.mono λe W hR=>hR.wide hmul
theorem zqA(p:Pt)(mn mx:Int)(ih:qB p):qB (.az p mn mx):=by
 intro B n nw bt sv fv mk f fr F w v h hT hle hn;obtain⟨lv,rfl,hl,dV⟩:=hT;have gz:=ql h.dv;have eV:bt<w.heap.size:=(ah.1 h.box).1;have cN:=h.bb;obtain⟨t,x,rfl⟩:=je hl;obtain⟨W0,ai⟩:∃W0,(w.alloc (zd #[.bool false,zc za 0 0,zc za 0 0] 226)).alloc (zd #[.iface t x,ze .i64 mn,ze .i64 mx] 261)=W0:=⟨_,rfl⟩;have af:zl w.heap.size w W0:=by rw[<-ai];exact(aw).alloc (by simp) _
 have x0:W0.heap[w.heap.size]?=zb (zd #[.bool false,zc za 0 0,zc za 0 0] 226 (0,0)):=by rw[<-ai];exact cX (aI _ _)
 have x1:W0.heap[w.heap.size+1]?=zb (zd #[.iface t x,ze .i64 mn,ze .i64 mx] 261 (0,0)):=by rw[<-ai];exact Ge _ _ _
 obtain⟨q0,q1,q2,-,-,-⟩:=ci x1;have hc:=zna p ih mn mx dV B n nw bt sv fv mk f fr F W0 t x (h.below af) (aU.keep (.of af) p _ hl) hle hn;have a1:=znM;have a2:=znL;have a3:=znK;have a4:=ztL;clear hle hn dV
 go_enter func163,ntmps163
 go_wp2_with fail
 refine hc.mono ?_;rintro e W ⟨n',ga,gl,b,sj,mL,mk',f',fr',F',A,L,rfl,hk,D⟩;have u0:=D.kp.dO _ _ _ x0 (by decide) (by decide) (by decide);obtain⟨k0,k1,k2,f0,f1,f2⟩:=ci u0;have Bv:=(D.start af (by omega)).ret u0 (aj _) gz hk;clear hc ai D hk;go_wp2;exact bh (by simp[results,results163,go_sem,k0,k1,k2]) rfl Bv
theorem Gh:∀p:Pt,qB p
 |.set g=>zqC g
 |.seq p q=>zqB p q (Gh p) (Gh q)
 |.aN p q=>zqy p q (Gh p) (Gh q)
 |.az p mn mx=>zqA p mn mx (Gh p)
 |.aT p g=>zqz p g (Gh p)
end
variable {w:zf}
theorem ji.start{B:Nat}{nw bt:Nat}(cN:B<=bt)(af:0<B)(h:vt w bt nw (zc za 0 0) (zc za 0 0))(bY:nw<=1000)(hB:fS w)(mk:Nat->Nat)(f:Nat->Nat->Bool)(fr:Nat->Nat)(F:Nat->Nat->Nat):ji B w 0 nw bt (zc za 0 0) (zc za 0 0) mk f fr F:=
 ⟨h,⟨rfl,.inl ⟨rfl,rfl⟩⟩,⟨rfl,.inl ⟨rfl,rfl⟩⟩,⟨λ_ hp=>absurd hp (cR _),λ_ _ hp=>absurd hp (cR _)⟩,λ_ hp=>absurd hp (cR _),aR _,bY,hB,cN,af⟩
theorem zfm{P:Program}{ops:Array Oper}{rest:List Oper}{o:Oper}{a:Act}{Q:Exit->Act->zf->Prop}(hg:o.guard=za)(t:zn)(x:Operand)(ho:o.op=.box t x)(cells:Array zh)(hx:(a.eval x).cells=cells)
  (h:wpList P ops Q rest (a.put o.dst (zj (zb ⟨w.heap.size,0,za⟩))) (w.alloc (zd cells t))):wpList P ops Q (o::rest) a w:=by
 subst hx;refine wpList_plain hg λK hK=>?_
 unfold Oper.wp execOp;simp only[ho,Sem.run_bind,Instr.box,newVar,newRow,run_newObj_alloc,Sem.run_pure,Result.andThen_ok];exact hK _ _ h
theorem zjp(k:Int):prog.built 268 [(0,ze .i64 k)]=zb #[ze .i64 k,zc za 0 0,zc za 0 0]:=by kernel_rfl
theorem zj7(wt nw:Nat)(bY:nw=(wt+63)/64)(rX:wt<=2001)(w:zf):
  zm prog 162 #[ze .i64 wt] w λe W=>e=.returned (zj (zb ⟨w.heap.size,0,za⟩))/\W=w.alloc (zd #[ze .i64 nw,zc za 0 0,zc za 0 0] 268):=by
 have e1:((wt:Int)+63)/64=(nw:Int):=by omega
 have e2:((wt:Int)+63).tdiv 64=(nw:Int):=by rw[<-e1];exact Int.tdiv_eq_ediv_of_nonneg (by omega)
 have hb:=zjp nw;have uQ:nw<=1000:=by omega
 clear bY
 go_enter func162,ntmps162
 go_wp2_with (first|(refine zeg rfl 268 #[(0,.tmp 5)] rfl [(0,ze .i64 nw)] (by simp[Act.eval]) _ hb ?_)|(refine zfm rfl 268 (.tmp 6) rfl #[ze .i64 nw,zc za 0 0,zc za 0 0] rfl ?_))
 go_ret
 exact⟨rfl,rfl⟩
end Go.Proofs.YtdimhpfiieepiaaGreatDoor
