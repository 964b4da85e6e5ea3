import Derived.Test.YtdimhpfiieepiaaGreatDoorC44
import Derived.WalkMore
namespace Go.Proofs.YtdimhpfiieepiaaGreatDoor
open Proofs.Tryz
open Option renaming none->za,some->zb
open Value renaming pointer->zc,int->zd,agg->ze,slice->zl
open Obj renaming cells->zf
open RowKit renaming Below->zg,Hid->aa
open Go renaming World->zj,Value->zk
set_option maxHeartbeats 4000000
set_option maxRecDepth 100000
open Go.RowKit
attribute [local go_sem ↓] wp_at_zero wp_at_succ
section
variable {w W2:zj}{pl:Nat}{v:zk}{p:Pt}
theorem wz{g:Nat}{a0 a1 a2 a3:zk}{t:TypeId}(h:w.heap[g]?=zb (zf #[a0,a1,a2,a3] t (0,0))):w.cell? ⟨g,2,za⟩=zb a2/\w.frozen? ⟨g,2,za⟩=false:=by
 have:∀o,w.cell? ⟨g,o,za⟩=#[a0,a1,a2,a3][o]?:=λ_=>aO _ _ _ _ _ _ h
 exact⟨this 2,cF _ _ 2 _ _ h⟩
theorem Pe{lo:Nat}{Q:Nat->Option Pt}{f:zk}(hb:zg w.heap.size w W2)(hx:W2.heap[w.heap.size]?=zb (zf #[zc (zb ⟨pl,0,za⟩),v,.nilIface,zc za] 222 (0,0)))(hm:kx lo W2 pl Q)(uE:w.heap.size<lo)(hf:P3 w.heap.size lo W2 pl Q p f)(hT:aR w v p)(hw:aF p<=2000):
  wV w pl p (.returned (zc (zb ⟨w.heap.size,0,za⟩))) (W2.setCell ⟨w.heap.size,2,za⟩ f):=by
 have h3:=dF W2 w.heap.size 2 _ _ f hx;have h4:∀k,k≠w.heap.size->(W2.setCell ⟨w.heap.size,2,za⟩ f).heap[k]?=W2.heap[k]?:=λk e=>cu _ _ _ _ (show k≠w.heap.size from e)
 obtain⟨W3,ff⟩:∃W3,W2.setCell ⟨w.heap.size,2,za⟩ f=W3:=⟨_,rfl⟩;have ay:zg w.heap.size w W3:=by rw[<-ff];exact hb.setCell (ai _) _
 rw[ff]at h3 h4 ⊢;have x3:W3.heap[w.heap.size]?=zb (zf #[zc (zb ⟨pl,0,za⟩),v,f,zc za] 222 (0,0)):=by rw[h3];rfl
 have km:bR W2 W3:=λmg g e=>(h4 mg (λe2=>by rw[e2,hx]at e;exact absurd (bP e) (by decide))).trans e
 have R3:Q w.heap.size=za:=hm.Rn uE;have lV:=aR.keep (od ay) p _ hT;have GW:qU Q (zi w.heap.size p) w.heap.size=zb p:=Wl R3 (VH _ _);refine⟨w.heap.size,qU Q (zi w.heap.size p),rfl,ay,kx.union (hm.keep (Nat.le_of_lt uE) (λk hk _=>h4 k (by omega)) km) (λk q e=>?_),?_⟩
 ·obtain⟨rfl,rfl⟩:=WT e;exact⟨ai _,hw,v,f,x3,lV⟩
 ·exact hf.2 w.heap.size W3 _ (Nat.le_of_lt uE) (λk hk _=>h4 k (by omega)) km (λk q e=>WU e) ⟨ai _,GW,⟨v,x3,lV⟩,hw⟩
theorem zhW(hb:zg w.heap.size w W2)(hx:W2.heap[w.heap.size]?=zb (zf #[zc (zb ⟨pl,0,za⟩),v,.nilIface,zc za] 222 (0,0)))(hn:lJ p)(hT:aR w v p)(hw:aF p<=2000):wV w pl p (.returned (zc (zb ⟨w.heap.size,0,za⟩))) W2:=by
 have nP:=aR.keep (od hb) p _ hT;refine⟨w.heap.size,zi w.heap.size p,rfl,hb,λk q e=>?_,.leaf _ _ ⟨ai _,VH _ _,⟨v,hx,nP⟩,hw⟩ hn⟩;obtain⟨rfl,rfl⟩:=WT e;exact⟨ai _,hw,v,_,hx,nP⟩
theorem zpJ(f:Nat->Bool):sf (.set f):=by
 intro pl v w hT hw;have s6:=hT;obtain⟨mg,rfl,Th⟩:=hT;have a1:∀w,Sem.run prog (Instr.typeAssert (.iface 297 (ze #[zc (zb ⟨mg,0,za⟩)])) 184 256 true) w=.ok (.tuple #[ze #[.nilIface,.nilIface],.bool false]) w:=λw=>by kernel_rfl
 have a2:∀w,Sem.run prog (Instr.typeAssert (.iface 297 (ze #[zc (zb ⟨mg,0,za⟩)])) 184 258 true) w=.ok (.tuple #[ze #[.nilIface,.nilIface],.bool false]) w:=λw=>by kernel_rfl
 have a3:∀w,Sem.run prog (Instr.typeAssert (.iface 297 (ze #[zc (zb ⟨mg,0,za⟩)])) 184 261 true) w=.ok (.tuple #[ze #[.nilIface,zd .i64 0,zd .i64 0],.bool false]) w:=λw=>by kernel_rfl
 have a4:∀w,Sem.run prog (Instr.typeAssert (.iface 297 (ze #[zc (zb ⟨mg,0,za⟩)])) 184 264 true) w=.ok (.tuple #[ze #[.nilIface,zd .i64 0],.bool false]) w:=λw=>by kernel_rfl
 obtain⟨W0,ah⟩:∃W0,w.alloc (zf #[zc (zb ⟨pl,0,za⟩),.iface 297 (ze #[zc (zb ⟨mg,0,za⟩)]),.nilIface,zc za] 222)=W0:=⟨_,rfl⟩;have ae:zg w.heap.size w W0:=by rw[<-ah];exact au
 have x0:W0.heap[w.heap.size]?=zb (zf #[zc (zb ⟨pl,0,za⟩),.iface 297 (ze #[zc (zb ⟨mg,0,za⟩)]),.nilIface,zc za] 222 (0,0)):=by rw[<-ah];exact aL _ _
 have HF:=aC (zhW (p:=.set f) ae x0 trivial s6 hw);clear s6 Th ae x0
 go_enter func139,ntmps139
 go_wp2;go_ret;exact HF.out
theorem zpI(l r:Pt)(lT:∀q,mz q<mz (.seq l r)->sf q):sf (.seq l r):=by
 intro pl v w hT hw;have s6:=hT;obtain⟨lv,rv,rfl,hl,hr⟩:=hT;obtain⟨t1,x1,rfl⟩:=ji hl;obtain⟨t2,x2,rfl⟩:=ji hr;have a1:∀w,Sem.run prog (Instr.typeAssert (.iface 256 (ze #[.iface t1 x1,.iface t2 x2])) 184 256 true) w=.ok (.tuple #[ze #[.iface t1 x1,.iface t2 x2],.bool true]) w:=λw=>by kernel_rfl
 obtain⟨W0,ah⟩:∃W0,w.alloc (zf #[zc (zb ⟨pl,0,za⟩),.iface 256 (ze #[.iface t1 x1,.iface t2 x2]),.nilIface,zc za] 222)=W0:=⟨_,rfl⟩;have ae:zg w.heap.size w W0:=by rw[<-ah];exact au
 have x0:W0.heap[w.heap.size]?=zb (zf #[zc (zb ⟨pl,0,za⟩),.iface 256 (ze #[.iface t1 x1,.iface t2 x2]),.nilIface,zc za] 222 (0,0)):=by rw[<-ah];exact aL _ _
 have bX:W0.heap.size=w.heap.size+1:=by rw[<-ah];simp
 obtain⟨W1,cC⟩:∃W1,W0.alloc (zf #[.iface t1 x1,.iface t2 x2] 256)=W1:=⟨_,rfl⟩;have ak:zg W0.heap.size W0 W1:=by rw[<-cC];exact au
 have y1:W1.heap[W0.heap.size]?=zb (zf #[.iface t1 x1,.iface t2 x2] 256 (0,0)):=by rw[<-cC];exact aL _ _
 have lX:zg w.heap.size w W1:=aj ae ae.size ak;have mB:=(ak.block _ (ap.1 x0).1).trans x0;have dB:w.heap.size+1<W1.heap.size:=by have:=(ap.1 y1).1;omega
 have hc:=zm0 l r lT pl _ _ W1 (aR.keep (od lX) l _ hl) (aR.keep (od lX) r _ hr) hw;obtain⟨c0,c1⟩:=jA y1;have HT:=aC s6;clear s6 hl hr lT y1 x0;rw[bX]at ak c0 c1
 go_enter func139,ntmps139
 go_wp2_with fail
 refine hc.mono ?_;rintro e2 W2 ⟨Q,fv,rfl,af,cD,yQ⟩;have jK:zg w.heap.size w W2:=aj lX lX.size af;have jy:=(af.block _ (ap.1 mB).1).trans mB;have HF:=aC (Pe jK jy cD (by omega) (yQ.to w.heap.size) HT.out hw);obtain⟨d2,f2⟩:=wz jy;have rN:=yQ.1;clear hc cD yQ jy c0 c1 ah cC;rcases rN with rfl|⟨t9,x9,rfl⟩
 ·go_wp2;go_ret;exact HF.out
 ·go_wp2;go_ret;exact HF.out
theorem zpF(l r:Pt)(lT:∀q,mz q<mz (.aQ l r)->sf q):sf (.aQ l r):=by
 intro pl v w hT hw;have s6:=hT;obtain⟨lv,rv,rfl,hl,hr⟩:=hT;obtain⟨t1,x1,rfl⟩:=ji hl;obtain⟨t2,x2,rfl⟩:=ji hr;have a1:∀w,Sem.run prog (Instr.typeAssert (.iface 258 (ze #[.iface t1 x1,.iface t2 x2])) 184 256 true) w=.ok (.tuple #[ze #[.nilIface,.nilIface],.bool false]) w:=λw=>by kernel_rfl
 have a2:∀w,Sem.run prog (Instr.typeAssert (.iface 258 (ze #[.iface t1 x1,.iface t2 x2])) 184 258 true) w=.ok (.tuple #[ze #[.iface t1 x1,.iface t2 x2],.bool true]) w:=λw=>by kernel_rfl
 obtain⟨W0,ah⟩:∃W0,w.alloc (zf #[zc (zb ⟨pl,0,za⟩),.iface 258 (ze #[.iface t1 x1,.iface t2 x2]),.nilIface,zc za] 222)=W0:=⟨_,rfl⟩;have ae:zg w.heap.size w W0:=by rw[<-ah];exact au
 have x0:W0.heap[w.heap.size]?=zb (zf #[zc (zb ⟨pl,0,za⟩),.iface 258 (ze #[.iface t1 x1,.iface t2 x2]),.nilIface,zc za] 222 (0,0)):=by rw[<-ah];exact aL _ _
 have bX:W0.heap.size=w.heap.size+1:=by rw[<-ah];simp
 obtain⟨W1,cC⟩:∃W1,W0.alloc (zf #[.iface t1 x1,.iface t2 x2] 258)=W1:=⟨_,rfl⟩;have ak:zg W0.heap.size W0 W1:=by rw[<-cC];exact au
 have y1:W1.heap[W0.heap.size]?=zb (zf #[.iface t1 x1,.iface t2 x2] 258 (0,0)):=by rw[<-cC];exact aL _ _
 have lX:zg w.heap.size w W1:=aj ae ae.size ak;have mB:=(ak.block _ (ap.1 x0).1).trans x0;have dB:w.heap.size+1<W1.heap.size:=by have:=(ap.1 y1).1;omega
 have hc:=zkY l r lT pl _ _ W1 (aR.keep (od lX) l _ hl) (aR.keep (od lX) r _ hr) hw;obtain⟨c0,c1⟩:=jA y1;have HT:=aC s6;clear s6 hl hr lT y1 x0;rw[bX]at ak c0 c1
 go_enter func139,ntmps139
 go_wp2_with fail
 refine hc.mono ?_;rintro e2 W2 ⟨Q,fv,rfl,af,cD,yQ⟩;have jK:zg w.heap.size w W2:=aj lX lX.size af;have jy:=(af.block _ (ap.1 mB).1).trans mB;have HF:=aC (Pe jK jy cD (by omega) (yQ.to w.heap.size) HT.out hw);obtain⟨d2,f2⟩:=wz jy;have rN:=yQ.1;clear hc cD yQ jy c0 c1 ah cC;rcases rN with rfl|⟨t9,x9,rfl⟩
 ·go_wp2;go_ret;exact HF.out
 ·go_wp2;go_ret;exact HF.out
theorem zpH(b:Pt)(mn mx:Int)(lT:sf b):sf (.aw b mn mx):=by
 intro pl v w hT hw;have s6:=hT;have tu:=zth hT hw;obtain⟨lv,rfl,hl,dZ⟩:=hT;obtain⟨t1,x1,rfl⟩:=ji hl;obtain⟨m,rfl⟩:∃m:Nat,mn=m:=⟨mn.toNat,by simp[eK]at dZ;omega⟩;have a1:∀w,Sem.run prog (Instr.typeAssert (.iface 261 (ze #[.iface t1 x1,zd .i64 (m:Int),zd .i64 mx])) 184 256 true) w=.ok (.tuple #[ze #[.nilIface,.nilIface],.bool false]) w:=λw=>by kernel_rfl
 have a2:∀w,Sem.run prog (Instr.typeAssert (.iface 261 (ze #[.iface t1 x1,zd .i64 (m:Int),zd .i64 mx])) 184 258 true) w=.ok (.tuple #[ze #[.nilIface,.nilIface],.bool false]) w:=λw=>by kernel_rfl
 have a3:∀w,Sem.run prog (Instr.typeAssert (.iface 261 (ze #[.iface t1 x1,zd .i64 (m:Int),zd .i64 mx])) 184 261 true) w=.ok (.tuple #[ze #[.iface t1 x1,zd .i64 (m:Int),zd .i64 mx],.bool true]) w:=λw=>by kernel_rfl
 obtain⟨W0,ah⟩:∃W0,w.alloc (zf #[zc (zb ⟨pl,0,za⟩),.iface 261 (ze #[.iface t1 x1,zd .i64 (m:Int),zd .i64 mx]),.nilIface,zc za] 222)=W0:=⟨_,rfl⟩;have ae:zg w.heap.size w W0:=by rw[<-ah];exact au
 have x0:W0.heap[w.heap.size]?=zb (zf #[zc (zb ⟨pl,0,za⟩),.iface 261 (ze #[.iface t1 x1,zd .i64 (m:Int),zd .i64 mx]),.nilIface,zc za] 222 (0,0)):=by rw[<-ah];exact aL _ _
 have bX:W0.heap.size=w.heap.size+1:=by rw[<-ah];simp
 obtain⟨W1,cC⟩:∃W1,W0.alloc (zf #[.iface t1 x1,zd .i64 (m:Int),zd .i64 mx] 261)=W1:=⟨_,rfl⟩;have ak:zg W0.heap.size W0 W1:=by rw[<-cC];exact au
 have y1:W1.heap[W0.heap.size]?=zb (zf #[.iface t1 x1,zd .i64 (m:Int),zd .i64 mx] 261 (0,0)):=by rw[<-cC];exact aL _ _
 have lX:zg w.heap.size w W1:=aj ae ae.size ak;have mB:=(ak.block _ (ap.1 x0).1).trans x0;have dB:w.heap.size+1<W1.heap.size:=by have:=(ap.1 y1).1;omega
 have hc:=lT pl (.iface t1 x1) W1 (aR.keep (od lX) b _ hl) tu;obtain⟨c0,c1,c2⟩:=LF y1;have HT:=aC s6;have Hl:=aC hl;have G3:=(ap.1 y1).1;rw[bX]at ak c0 c1 c2 G3;clear s6 hl lT y1 x0
 go_enter func139,ntmps139
 go_wp2_with fail
 refine hc.mono ?_;rintro e2 W2 ⟨a',Q,rfl,af,cD,jc⟩;have jK:zg w.heap.size w W2:=aj lX lX.size af;have jy:=(af.block _ (ap.1 mB).1).trans mB;obtain⟨fb,mN,AL,rL⟩:=jc.Rp;obtain⟨vb,uy,-⟩:=mN.box;have cb:=(wz uy).1;rcases rL with rfl|⟨t9,x9,rfl⟩
 ·have HF:=aC (zhW jK jy (show lJ (.aw b m mx) from AL rfl) HT.out hw);clear hc cD jc jy mN uy AL c0 c1 c2;go_wp2;go_ret;exact HF.out
 ·have e0:W2.cell? ⟨w.heap.size+1,0,za⟩=zb (.iface t1 x1):=(af.cell (p:=⟨w.heap.size+1,0,za⟩) G3).trans c0;have e1:W2.cell? ⟨w.heap.size+1,1,za⟩=zb (zd .i64 (m:Int)):=(af.cell (p:=⟨w.heap.size+1,1,za⟩) G3).trans c1;have e2:W2.cell? ⟨w.heap.size+1,2,za⟩=zb (zd .i64 mx):=(af.cell (p:=⟨w.heap.size+1,2,za⟩) G3).trans c2;have gW:=aR.keep (od jK) b _ Hl.out;have KB:Calls prog 160 #[zc (zb ⟨pl,0,za⟩),ze #[.iface t1 x1,zd .i64 (m:Int),zd .i64 mx],zc (zb ⟨w.heap.size,0,za⟩),zc (zb ⟨a',0,za⟩)] W2 λe w'=>Ga w.heap.size W1.heap.size Q W2 pl (.aw b m mx) e w':=by
   by_cases hz:(m:Int)=0/\mx=-1
   ·obtain⟨h1,rfl⟩:=hz;rw[h1];exact zhG pl _ b W2 w.heap.size a' W1.heap.size Q gW jc cD
   ·exact zhF pl _ b m mx dZ hz W2 w.heap.size a' W1.heap.size Q gW tu jc cD af.size
  clear hc cD jc mN uy AL c0 c1 c2 gW
  go_wp2_with fail
  refine KB.mono ?_;rintro e3 W3 ⟨Q3,fv,rfl,ay,vQ,-,SE⟩;have Au:zg w.heap.size w W3:=aj jK jK.size ay;have UY:=(ay.block _ (ap.1 jy).1).trans jy;have HF:=aC (Pe Au UY vQ (by omega) SE HT.out hw);obtain⟨d2,f2⟩:=wz UY;have rN:=SE.1;clear KB vQ SE UY jy e0 e1 e2 ah cC;rcases rN with rfl|⟨t9,x9,rfl⟩
  ·go_wp2;go_ret;exact HF.out
  ·go_wp2;go_ret;exact HF.out
theorem zpG(b:Pt)(g:Int)(lT:sf b):sf (.aT b g):=by
 intro pl v w hT hw;have s6:=hT;obtain⟨lv,rfl,hl⟩:=hT;obtain⟨t1,x1,rfl⟩:=ji hl;have a1:∀w,Sem.run prog (Instr.typeAssert (.iface 264 (ze #[.iface t1 x1,zd .i64 g])) 184 256 true) w=.ok (.tuple #[ze #[.nilIface,.nilIface],.bool false]) w:=λw=>by kernel_rfl
 have a2:∀w,Sem.run prog (Instr.typeAssert (.iface 264 (ze #[.iface t1 x1,zd .i64 g])) 184 258 true) w=.ok (.tuple #[ze #[.nilIface,.nilIface],.bool false]) w:=λw=>by kernel_rfl
 have a3:∀w,Sem.run prog (Instr.typeAssert (.iface 264 (ze #[.iface t1 x1,zd .i64 g])) 184 261 true) w=.ok (.tuple #[ze #[.nilIface,zd .i64 0,zd .i64 0],.bool false]) w:=λw=>by kernel_rfl
 have a4:∀w,Sem.run prog (Instr.typeAssert (.iface 264 (ze #[.iface t1 x1,zd .i64 g])) 184 264 true) w=.ok (.tuple #[ze #[.iface t1 x1,zd .i64 g],.bool true]) w:=λw=>by kernel_rfl
 obtain⟨W0,ah⟩:∃W0,w.alloc (zf #[zc (zb ⟨pl,0,za⟩),.iface 264 (ze #[.iface t1 x1,zd .i64 g]),.nilIface,zc za] 222)=W0:=⟨_,rfl⟩;have ae:zg w.heap.size w W0:=by rw[<-ah];exact au
 have x0:W0.heap[w.heap.size]?=zb (zf #[zc (zb ⟨pl,0,za⟩),.iface 264 (ze #[.iface t1 x1,zd .i64 g]),.nilIface,zc za] 222 (0,0)):=by rw[<-ah];exact aL _ _
 have bX:W0.heap.size=w.heap.size+1:=by rw[<-ah];simp
 obtain⟨W1,cC⟩:∃W1,W0.alloc (zf #[.iface t1 x1,zd .i64 g] 264)=W1:=⟨_,rfl⟩;have ak:zg W0.heap.size W0 W1:=by rw[<-cC];exact au
 have y1:W1.heap[W0.heap.size]?=zb (zf #[.iface t1 x1,zd .i64 g] 264 (0,0)):=by rw[<-cC];exact aL _ _
 have lX:zg w.heap.size w W1:=aj ae ae.size ak;have mB:=(ak.block _ (ap.1 x0).1).trans x0;have dB:w.heap.size+1<W1.heap.size:=by have:=(ap.1 y1).1;omega
 have hc:=lT pl (.iface t1 x1) W1.drew (aR.keep (od lX.drew) b _ hl) hw;have D8:Calls prog 139 #[zc (zb ⟨pl,0,za⟩),.iface t1 x1] W1.drew λe w'=>∃v,e=.returned v/\wV W1.drew pl b (.returned v) w':=hc.mono λe w' h=>by
  obtain⟨a,Q2,rfl,h2⟩:=h;exact⟨_,rfl,a,Q2,rfl,h2⟩
 obtain⟨c0,c1⟩:=jA y1;have rf:aa (∀(v:zk) (W2:zj),wV W1.drew pl b (.returned v) W2->∃a',v=zc (zb ⟨a',0,za⟩)/\W2.cell? ⟨w.heap.size,2,za⟩=zb .nilIface/\W2.frozen? ⟨w.heap.size,2,za⟩=false/\W2.cell? ⟨w.heap.size+1,1,za⟩=zb (zd .i64 g)/\wV w pl (.aT b g) (.returned (zc (zb ⟨w.heap.size,0,za⟩))) (W2.setCell ⟨w.heap.size,2,za⟩ (.iface 242 (ze #[zd .i64 g,zc (zb ⟨a',0,za⟩)])))):=λv W2 hR=>by
  obtain⟨a',Q,e,af,cD,jc⟩:=hR;injection e with e
  subst e;have jK:zg w.heap.size w W2:=aj lX.drew (by have:=lX.size;exact this) af;have jy:=(af.block _ (ap.1 mB).1).trans mB;have y2':=(af.cell (p:=⟨W0.heap.size,1,za⟩) (ap.1 y1).1).trans c1;rw[bX]at y2';exact⟨a',rfl,(wz jy).1,(wz jy).2,y2',Pe jK jy cD (by have:W1.drew.heap.size=W1.heap.size:=rfl;omega) ((zoS jc).to w.heap.size) s6 hw⟩
 rw[bX]at ak c0 c1;clear s6 hl lT y1 x0 hc mB
 go_enter func139,ntmps139
 go_upto_region 16 with fail
 refine wp_mono (Q:=vk _) ?_ E7
 go_region_law ((refine A9 (by rfl) 139 #[.tmp 60,.tmp 62] #[161,184] (by rfl) #[zc (zb ⟨pl,0,za⟩),.iface t1 x1] (by simp[Act.eval]) _ (Vs _ _) D8 ?_;intro v4 W4 sY;obtain⟨a4,rfl,d4,f4,g4,Am⟩:=rf.out _ W4 sY;have HF:=aC Am;clear sY Am))
 all_goals
  rw[wy];clear D8 d4 f4 g4 c0 c1;go_wp2;go_ret;exact HF.out
theorem zrx(p:Pt):sf p:=by
 induction hn:mz p using Nat.strongRecOn generalizing p with
 |_ n ih=>
  subst hn;have hk:∀q,mz q<mz p->sf q:=λq hq=>ih (mz q) hq q rfl
  cases p with
  |set f=>exact zpJ f
  |seq l r=>exact zpI l r hk
  |aQ l r=>exact zpF l r hk
  |aw b mn mx=>exact zpH b mn mx (hk b (su (by simp[fz])))
  |aT b g=>exact zpG b g (hk b (su (by simp[fz])))
end
section
variable {lo pl:Nat}{w:zj}{Q:Nat -> Option Pt}{p:Pt}
theorem VK(t:ByteArray)(a b:Nat):(t.extract a b).data.toList=(t.data.toList.drop a).take (b-a):=by
 simp[ByteArray.data_extract,List.extract]
def AsG(f:zk)(p:Pt):Prop:=∃(g:Int) (gp:Option Addr) (b:Bool),(∀w,Sem.run prog (Instr.typeAssert f 220 242 true) w=.ok (.tuple #[ze #[zd .i64 g,.pointer gp],.bool b]) w)/\((b=true/\∃k,p=.aT k g)\/(b=false/\∀i j,sk p i j=[]))
theorem dI.Y1{a:Nat}(h:dI lo w pl Q a p):∃f,sN lo w pl Q a p f/\AsG f p/\((f=.nilIface/\lJ p)\/∃t x,f=.iface t x):=by
 cases h with
 |leaf _ _ h1 h2=>exact⟨_,h1,⟨0,za,false,λw=>by kernel_rfl,.inr ⟨rfl,λi j=>zjL h2 i j⟩⟩,.inl ⟨rfl,h2⟩⟩
 |group _ a' b g h1 _=>exact⟨_,h1,⟨g,zb ⟨a',0,za⟩,true,λw=>by kernel_rfl,.inl ⟨rfl,b,rfl⟩⟩,.inr ⟨_,_,rfl⟩⟩
 |choice _ l r go cap xs h1 _ _ _=>exact⟨_,h1,⟨0,za,false,λw=>by kernel_rfl,.inr ⟨rfl,λi j=>rfl⟩⟩,.inr ⟨_,_,rfl⟩⟩
 |chain _ _ go cap xs h1 _ _ _ h5 _ _ _=>exact⟨_,h1,⟨0,za,false,λw=>by kernel_rfl,.inr ⟨rfl,λi j=>by
   cases p with
   |aT b g=>exact absurd rfl (h5 b g)
   |_=>rfl⟩⟩,.inr ⟨_,_,rfl⟩⟩
 |rounds _ a' b h1 _=>exact⟨_,h1,⟨0,za,false,λw=>by kernel_rfl,.inr ⟨rfl,λi j=>rfl⟩⟩,.inr ⟨_,_,rfl⟩⟩
def Q5(w0:zj)(pl:Nat)(Q:Nat->Option Pt)(bs bt bp gs m cap:Nat)(t:ByteArray)(Ow:Nat->Nat->Prop)(w:zj)(sp:List (Int×Int))(p:Pt)(i j:Nat)(e:Ending)(w':zj):Prop:=
 ∃(aI:Nat->Nat->Prop) (l:List Up),e=.returned (.tuple #[])/\Pl t.data.toList p i j l/\oP w0 pl Q bs bt bp gs m cap t aI w' (dK sp l)/\zP w0 gs Ow w aI w'
def QZ(w0:zj)(pl:Nat)(Q:Nat->Option Pt)(lo bs bt bp gs m cap:Nat)(t:ByteArray)(p:Pt):Prop:=
 ∀(w:zj) (Ow:Nat->Nat->Prop) (sp:List (Int×Int)) (a i j:Nat),oP w0 pl Q bs bt bp gs m cap t Ow w sp->dI lo w0 pl Q a p->Lg t.data.toList p i j->(∀l,Pl t.data.toList p i j l->∀x∈l,1<=x.1/\x.1<(m:Int))->
  Calls prog 150 #[zc (zb ⟨a,0,za⟩),zd .i64 i,zd .i64 j,zc (zb ⟨bs,0,za⟩),zc (zb ⟨bt,0,za⟩),zc (zb ⟨bp,0,za⟩)] w λe w'=>Q5 w0 pl Q bs bt bp gs m cap t Ow w sp p i j e w'
structure LdA(w0:zj)(pl:Nat)(Q:Nat->Option Pt)(lo:Nat)(u:aJ)(p:Pt)(i j:Nat)(ys:List ud):Prop where
 ok:yz u j (pV i (oa ys)) i
 pls:∀l,rk u (pV i (oa ys)) i l->Pl u p i j (sk p i j++l)
 pc:∀y,y∈ys->dI lo w0 pl Q y.1 y.2.1/\mz y.2.1<mz p
theorem zsP{w0:zj}{Ow:Nat->Nat->Prop}{t:ByteArray}{i j:Nat}{e:Ending}{w':zj}(h:cE w0 pl Q Ow w)(ho:oO p)(hL:Lg t.data.toList p i j)(hB:YO w0 pl Q Ow w lo (t.extract i j).data.toList (j-i) p e w'):∃(aI:Nat->Nat->Prop) (ys:List ud) (v:zk),e=.returned v/\da w0 pl Q Ow w aI w'/\w'.ownsRow w.heap.size 247 2 v ys.length (my ys)/\(∀k,v.ownBlock=zb k->∀b,¬aI k b)/\LdA w0 pl Q lo t.data.toList p i j ys:=by
 rcases hB with ⟨h1,rfl,rfl⟩|⟨h1,aI,ys,v,rfl,h3,h4,h5,h6,h7⟩
 ·refine⟨Ow,[],_,rfl,da.cH h (Below.refl _ _),⟨rfl,.inl ⟨rfl,rfl⟩⟩,λk e=>by simp[Value.ownBlock]at e,⟨trivial,λl hl=>?_,λy hy=>by cases hy⟩⟩;cases hl;rw[zjL h1,tW];obtain⟨l,hl⟩:=xO p ho i j hL;have:=Fq p h1 i j l hl;subst this;exact hl
 ·rw[VK]at h6;have dA:=hL.1;have hju:=hL.2.1;have h8:=zre (u:=t.data.toList) (i:=i) (n:=j-i) (by omega) p _ h6;rw[show i+(j-i)=j from by omega]at h8;obtain⟨k1,k2⟩:=zsR hju p _ ho h1 hL h8;exact⟨aI,ys,v,rfl,h3,h4,h5,⟨k1,k2,λy hy=>⟨h7 y hy,zsQ p _ h6 y.2 (sy.2 ⟨y,hy,rfl⟩)⟩⟩⟩
end
variable {ys:List ud}{cap pl lo bs bt bp gs m:Nat}{w0:zj}{Q:Nat -> Option Pt}{t:ByteArray}
theorem zrk{k:Nat}{y:ud}(h:ys[k]?=zb y)(i:Nat):pV i (oa (ys.drop k))=(y.2.1,i+y.2.2)::pV i (oa (ys.drop (k+1))):=by
 have hk:=(vp.1 h).1;rw[oC hk,(vp.1 h).2]
 rfl
theorem zs1{w:zj}{B n g:Nat}(h:w.ownsRow B 247 2 (zl (zb ⟨g,0,za⟩) n cap) ys.length (my ys)){k:Nat}{y:ud}(hy:ys[k]?=zb y):w.cell? ⟨g,k*2,za⟩=zb (zc (zb ⟨y.1,0,za⟩))/\w.cell? ⟨g,k*2+1,za⟩=zb (zd .i64 (y.2.2:Int)):=by
 have hk:=(vp.1 hy).1;obtain⟨h1,h2⟩:=zpE ys k y.1 y.2.1 y.2.2 hy;have hn:n=ys.length:=by
  rcases h.2 with ⟨e,_⟩|⟨g',c',aA,e,_⟩
  ·cases e
  ·cases e;rfl
 subst hn;have e:∀n,(⟨g,0,za⟩:Addr).add n=⟨g,n,za⟩:=λn=>by unfold Addr.add;split<;>simp_all
 have c1:=Iq h (k*2) _ h1;have c2:=Iq h (k*2+1) _ h2;rw[e]at c1 c2;exact⟨c1,c2⟩
theorem znN(ht:t.size<=4096)(p:Pt)(lT:∀q,mz q<mz p->QZ w0 pl Q lo bs bt bp gs m cap t q):QZ w0 pl Q lo bs bt bp gs m cap t p:=by
 intro w Ow sp a i j hW hp hL hG;obtain⟨f,hB,⟨g,gp,isg,Cl,Ke⟩,rN⟩:=hp.Y1;have c2:=(hW.inv.form hB).1;have ho:=hW.inv.Li hp.q;have dA:=hL.1;have hju:j<=t.size:=by have:=hL.2.1;simpa using this
 have tx:=hW.inv.size;obtain⟨W0,ah⟩:∃W0,w.alloc (zf #[zd .i64 g,.pointer gp] 242)=W0:=⟨_,rfl⟩;have ae:zg w.heap.size w W0:=by rw[<-ah];exact au
 obtain⟨RZ,lU⟩:=hW.Uw (da.cH hW.inv ae);have x0:W0.heap[w.heap.size]?=zb (zf #[zd .i64 g,.pointer gp] 242 (0,0)):=by rw[<-ah];exact aL _ _
 have y0:=(jA x0).1;have cs0:W0.cell? ⟨bs,0,za⟩=zb (zl (zb ⟨gs,0,za⟩) m cap):=(aO _ _ _ _ _ _ RZ.xs:_=_);have zvW:=λ(W:zj) (dQ:Nat->Nat->Prop) (hI:cE w0 pl Q dQ W)=>zlt W hI lo a p hp (t.extract i j) (by rw[ByteArray.size_extract];omega) (by rw[VK];have:=(zx (u:=t.data.toList) (i:=i) (n:=j-i) (by simp;omega) (p:=p) (a:=0) (b:=j-i) (ai _)).2 (by rw[wH,show i+(j-i)=j from by omega];exact hL);rw[show (t.extract i j).size=j-i from by rw[ByteArray.size_extract];omega];exact this)
 have HW:=aC hW;have MG:=aC RZ;have nG:=aC lU;have Hp:=aC hp;have HL:=aC hL;have HG:=aC hG;have QE:=aC zvW;have IX:=aC lT;have hex:(t.extract i j).size=j-i:=by rw[ByteArray.size_extract];omega
 clear hW RZ lU hp hL hG zvW lT x0
 go_enter func150,ntmps150
 go_step3
 go_upto_if 23 with fail
 go_cut [] from 9 to 30 (λwx=>aa (oP w0 pl Q bs bt bp gs m cap t Ow wx (dK sp (sk p i j)))/\aa (zP w0 gs Ow w Ow wx))
 case first=>
  clear QE IX;cases isg with
  |false=>
   have HF:aa (oP w0 pl Q bs bt bp gs m cap t Ow W0 (dK sp (sk p i j))):=by
    rcases Ke with ⟨e,_⟩|⟨_,e⟩
    ·cases e
    ·show oP _ _ _ _ _ _ _ _ _ _ _ _ _;rw[e];exact MG.out
   clear Ke y0 cs0;go_wp2
   go_meet
   exact⟨HF,nG⟩
  |true=>
   obtain⟨kk,rP⟩:∃k,p=.aT k g:=by
    rcases Ke with ⟨_,e⟩|⟨e,_⟩
    ·exact e
    ·cases e
   have eC:1<=g/\g<(m:Int):=by
    obtain⟨l,hl⟩:=xO p ho i j HL.out;rw[rP]at hl;obtain⟨l',rfl,uC⟩:=hl;exact HG.out _ (by rw[rP];exact⟨l',rfl,uC⟩) (g,i,j) (by simp)
   obtain⟨gi,rfl⟩:∃gi:Nat,g=gi:=⟨g.toNat,by omega⟩;have Kb:gi<m:=by omega
   obtain⟨NF,rE⟩:=MG.out.store gi Kb (i:Int) (j:Int);have HF:aa (oP w0 pl Q bs bt bp gs m cap t Ow ((W0.setCell ⟨gs,gi*2,za⟩ (zd .i64 i)).setCell ⟨gs,gi*2+1,za⟩ (zd .i64 j)) (dK sp (sk p i j))):=by
    have e:dK sp (sk p i j)=sp.set gi ((i:Int),(j:Int)):=by rw[rP];show sp.set (gi:Int).toNat _=_;rw[sx]
    rw[e];exact NF
   have HT:=aC (nG.out.trans rE);obtain⟨u0,u1,s0,s1,f0,f1⟩:=L8 MG.out.row Kb;have Ee:(0:Int)<=(gi:Int):=by omega
   have bU:(gi:Int)<(m:Int):=by omega
   clear Ke rP eC NF rE;go_wp2
   go_meet
   exact⟨HF,HT⟩
 case rest=>
  obtain⟨BA,nH⟩:=hcut;have hl:=QE.out wc Ow BA.out.inv;have ct:wc.cell? ⟨bt,0,za⟩=zb (.string t):=(aO _ _ _ _ _ _ BA.out.xt:_=_);clear QE Ke Cl rN y0 cs0 c2 ae MG nG;have i0:(0:Int)<=(i:Int):=by omega
  have i1:(i:Int)<=(j:Int):=by omega
  have i2:(j:Int)<=(t.size:Int):=by omega
  go_wp2
  go_step3
  go_wp2_with fail
  refine hl.mono ?_;rintro e2 W2 mN;rw[hex]at mN;obtain⟨pC,ys,v,rfl,nP,eJ,Tt,Kk⟩:=zsP BA.out.inv ho HL.out mN;obtain⟨ZX,Z6⟩:=BA.out.Uw nP;have Z5:=nH.out.trans Z6;have hcs:=nH.out.size;obtain⟨va,vc,hv,pN⟩:∃va vc,v=.slice va ys.length vc/\ys.length<=maxLen:=by
   rcases eJ.2 with ⟨e,e2⟩|⟨g,c,aA,e,_,_,e3,e4,_⟩
   ·exact⟨_,_,e2 ▸ e,by omega⟩
   ·exact⟨_,_,e,by omega⟩
  subst hv;obtain⟨n,Hn⟩:∃n,aa (ys.length=n):=⟨_,rfl⟩;rw[Hn.out]at eJ Tt pN ⊢;have fC:=HW.out.cj;have rh:aa (∀k,(Value.slice va n vc).ownBlock=zb k->k≠gs/\w0.heap.size<=k/\w.heap.size<=k/\k<W2.heap.size/\∀b,¬pC k b):=λk e=>by
   obtain⟨z1,aA,z2⟩:=iD eJ e;exact⟨by omega,by omega,by omega,(ap.1 z2).1,Tt k e⟩
  have FV:aa (∀k,k<n->∃y:ud,ys[k]?=zb y/\y∈ys):=λk hk=>by
   have xn:k<ys.length:=by have:=Hn.out;omega
   exact⟨_,eY xn,oz _⟩
  have BJ:aa (∀y,y∈ys->oO y.2.1):=λy hy=>HW.out.inv.Li (Kk.pc y hy).1.q
  have zxb:aa (∀k at',yz t.data.toList j (pV i (oa (ys.drop k))) at'->∃l2,rk t.data.toList (pV i (oa (ys.drop k))) at' l2):=λk at' h=>zmh _ _ h λx hx=>by
   obtain⟨z,z1,rfl⟩:=sy.1 hx;obtain⟨y,z2,rfl⟩:=sy.1 z1;exact BJ.out y (List.mem_of_mem_drop z2)
  have wS:aa (pV i (oa (ys.drop n))=[]):=by show _=_;rw[<-Hn.out];simp[oa,pV]
  have MH:=aC ZX;have sH:=aC Z5;have yv:=aC eJ;have QF:=aC Kk;have zAo:n<=9223372036854775807:=by unfold maxLen at pN;omega
  clear hl mN nP ZX Z6 Z5 eJ Tt Kk BA nH pN ct;go_wp2
  go_loopw [11,39] (λav iv wr=>∃(k at':Nat) (lx:Nat->Nat->Prop) (l1:List Up),av=zd .i64 at'/\iv=zd .i64 k/\k<=n/\at'<=j/\aa (oP w0 pl Q bs bt bp gs m cap t lx wr (dK sp (sk p i j++l1)))/\aa (zP w0 gs Ow w lx wr)/\aa (yz t.data.toList j (pV i (oa (ys.drop k))) at')/\aa (∀l2,rk t.data.toList (pV i (oa (ys.drop k))) at' l2->Pl t.data.toList p i j (sk p i j++(l1++l2)))/\aa (wr.ownsRow wc.heap.size 247 2 (.slice va n vc) n (my ys))/\aa (∀k,(Value.slice va n vc).ownBlock=zb k->∀b,¬lx k b))
   (λ_ iv _=>n-(intOf iv).toNat)
  case atStart=>exact⟨0,i,pC,[],rfl,rfl,aZ _,dA,by rw[tW];exact MH,sH,QF.out.ok,QF.out.pls,yv,λk e=>(rh.out k e).2.2.2.2⟩
  case round=>
   clear MH sH yv;obtain⟨k,at',lx,l1,rfl,rfl,ke,zzQ,HP,HT,HO,HC,yv,Dw⟩:=hrel
   by_cases hlt:k<n
   ·have hd:decide ((k:Int)<(n:Int))=true:=by simp;omega
    obtain⟨⟨ya,yq,ye⟩,hy,hym⟩:=FV.out k hlt;obtain⟨yX,GR⟩:=QF.out.pc _ hym;obtain⟨gv,rfl⟩:∃gv,va=zb ⟨gv,0,za⟩:=by
     rcases yv.out.2 with ⟨e,e2⟩|⟨g,c,aA,e,_⟩
     ·omega
     ·injection e with e1 e2 e3;exact⟨_,e1⟩
    obtain⟨l0,G4⟩:=zs1 (by rw[Hn.out];exact yv.out) hy;simp only at l0 G4 yX GR;obtain⟨V,hV⟩:∃V,wr.alloc (zf #[zc (zb ⟨ya,0,za⟩),zd .i64 (ye:Int)] 247)=V:=⟨_,rfl⟩;have jL:zg wr.heap.size wr V:=by rw[<-hV];exact au
    have xV:V.heap[wr.heap.size]?=zb (zf #[zc (zb ⟨ya,0,za⟩),zd .i64 (ye:Int)] 247 (0,0)):=by rw[<-hV];exact aL _ _
    have v0:=(jA xV).1;have v1:=(jA xV).2;obtain⟨NC,yK⟩:=HP.out.Uw (da.cH HP.out.inv jL);obtain⟨fy,hBy,-,hfy⟩:=yX.Y1;have cy:=(NC.inv.form hBy).1;have qx:=zrk hy i;simp only at qx;have eU:=HO.out;rw[qx]at eU;obtain⟨k1,k2,k3⟩:=eU;have il:(0:Int)<=(k:Int):=by omega
    have cM:(k:Int)<(n:Int):=by omega
    have bX:(0:Int)<=(i:Int)+(ye:Int):=by omega
    have dB:(i:Int)+(ye:Int)<=4096:=by omega
    have vx:=aC qx;have yo:=aC k3;have Qm:=aC NC;have sI:=aC (HT.out.trans yK);have Dt:=aC k1;have mf:∀W:zj,(∀g,(Value.slice (zb ⟨gv,0,za⟩) n vc).ownBlock=zb g->W.heap[g]?=wr.heap[g]?)->W.ownsRow wc.heap.size 247 2 (zl (zb ⟨gv,0,za⟩) n vc) n (my ys):=λW hW=>kH yv.out hW
    have YD:=aC mf;have cp:V.cell? ⟨bp,0,za⟩=zb (.func (.func 150) #[] #[zc (zb ⟨bs,0,za⟩),zc (zb ⟨bt,0,za⟩),zc (zb ⟨bp,0,za⟩)]):=(aO _ _ _ _ _ _ NC.xp:_=_);have zJ:aa (gv<wr.heap.size/\gv≠gs/\w0.heap.size<=gv):=by
     have z:=rh.out gv (by simp[Value.ownBlock]);exact⟨(Fc yv.out).2.2.1,z.1,z.2.1⟩
    have Qw:=aC jL;clear NC yK k1 k3 mf jL xV;rcases hfy with ⟨rfl,hno⟩|⟨ty,xx,rfl⟩
    ·have Qa:aa (∀l2,rk t.data.toList (pV i (oa (ys.drop (k+1)))) (i+ye) l2->Pl t.data.toList p i j (sk p i j++(l1++l2))):=λl2 h2=>by
      obtain⟨l3,h3⟩:=xO yq (BJ.out _ hym) at' (i+ye) Dt.out;have e3:=Fq yq hno _ _ _ h3;subst e3;exact HC.out ([]++l2) (by rw[vx.out];exact .cons _ _ _ _ _ _ h3 h2)
     clear HC HO HP HT;go_wp2
     go_roundw
     case rel=>exact⟨k+1,i+ye,lx,l1,by go_num,by go_num,by omega,k2,Qm,sI,yo,Qa,YD.out V (λg e=>by
       have e:gv=g:=by simpa [Value.ownBlock]using e
       subst e;exact Qw.out.block _ zJ.out.1),Dw⟩
     case measure=>simp[intOf];omega
    ·have hc:=IX.out yq GR V lx (dK sp (sk p i j++l1)) ya at' (i+ye) Qm.out yX Dt.out (λl hl x hx=>by
      obtain⟨l2,h2⟩:=zxb.out (k+1) (i+ye) yo.out;exact HG.out _ (HC.out (l++l2) (by rw[vx.out];exact .cons _ _ _ _ _ _ hl h2)) x (by simp[hx]))
     rw[show ((i+ye:Nat):Int)=(i:Int)+(ye:Int) from by omega]at hc
     go_wp2_with fail
     refine hc.mono ?_;rintro e3 W3 ⟨jG,l3,rfl,h3,ZY,lV⟩;have Dq:aa (∀l2,rk t.data.toList (pV i (oa (ys.drop (k+1)))) (i+ye) l2->Pl t.data.toList p i j (sk p i j++((l1++l3)++l2))):=λl2 h2=>by
      have:=HC.out (l3++l2) (by rw[vx.out];exact .cons _ _ _ _ _ _ h3 h2);rw[pA];exact this
     have Ql:aa (oP w0 pl Q bs bt bp gs m cap t jG W3 (dK sp (sk p i j++(l1++l3)))):=by
      show oP _ _ _ _ _ _ _ _ _ _ _ _ _;rw[<-pA,Iz];exact ZY
     have wR:=aC (sI.out.trans lV);have hgV:=Qw.out.size;have Ym:aa (W3.heap[gv]?=wr.heap[gv]?/\∀b,¬jG gv b):=by
      obtain⟨z1,z2⟩:=lV.eG gv zJ.out.2.2 (by have:=zJ.out.1;omega) zJ.out.2.1 (Dw.out gv (by simp[Value.ownBlock]));exact⟨z1.trans (Qw.out.block _ zJ.out.1),z2⟩
     clear hc h3 ZY lV HC HO HP HT Qm sI;go_wp2
     go_roundw
     case rel=>exact⟨k+1,i+ye,jG,l1++l3,by go_num,by go_num,by omega,k2,Ql,wR,yo,Dq,YD.out W3 (λg e=>by
       have e:gv=g:=by simpa [Value.ownBlock]using e
       subst e;exact Ym.out.1),λg e=>by
       have e:gv=g:=by simpa [Value.ownBlock]using e
       subst e;exact Ym.out.2⟩
     case measure=>simp[intOf];omega
   ·obtain rfl:k=n:=by omega
    have hd:decide ((k:Int)<(k:Int))=false:=by simp
    have HF:aa (Q5 w0 pl Q bs bt bp gs m cap t Ow w sp p i j (.returned (.tuple #[])) wr):=by
     refine⟨lx,sk p i j++l1,rfl,?_,HP.out,HT.out⟩;have:=HC.out [] (by rw[wS.out];exact .nil _);rw[tW]at this;exact this
    clear HP HT HO HC yv Dw;go_wp2;exact bodyPost_end (v:=.tuple #[]) (results_none rfl _ _ _) rfl HF.out
theorem zry(ht:t.size<=4096)(p:Pt):QZ w0 pl Q lo bs bt bp gs m cap t p:=by
 induction hn:mz p using Nat.strongRecOn generalizing p with
 |_ n ih=>subst hn;exact znN ht p λq hq=>ih (mz q) hq q rfl
end Go.Proofs.YtdimhpfiieepiaaGreatDoor
