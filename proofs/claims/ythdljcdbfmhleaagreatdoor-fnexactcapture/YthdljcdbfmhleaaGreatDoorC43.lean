import Derived.Test.YthdljcdbfmhleaaGreatDoorC42
import Derived.WalkMore
namespace Go.Proofs.YthdljcdbfmhleaaGreatDoor
set_option maxHeartbeats 4000000
set_option maxRecDepth 100000
open Go.RowKit
attribute [local go_sem ↓] Go.wp_at_zero Go.wp_at_succ
section
variable {w W2:World}{pl:Nat}{v:Value}{p:Pt}
theorem za3{g:Nat}{a0 a1 a2 a3:Value}{t:TypeId}(h:w.heap[g]?=some (.cells #[a0,a1,a2,a3] t (0,0))):w.cell? ⟨g,2,none⟩=some a2/\w.frozen? ⟨g,2,none⟩=false:=by
 have:∀o,w.cell? ⟨g,o,none⟩=#[a0,a1,a2,a3][o]?:=fun _=>zsm _ _ _ _ _ _ h
 exact⟨this 2,zso _ _ 2 _ _ h⟩
theorem zdq{lo:Nat}{Q:Nat->Option Pt}{f:Value}(hb:Below w.heap.size w W2)(hx:W2.heap[w.heap.size]?=some (.cells #[.pointer (some ⟨pl,0,none⟩),v,.nilIface,.pointer none] 114 (0,0)))(hm:PcM lo W2 pl Q)(hlo:w.heap.size<lo)(hf:FmB w.heap.size lo W2 pl Q p f)(hT:zai w v p)(hw:wPt p<=2000):
  PcR w pl p (.returned (.pointer (some ⟨w.heap.size,0,none⟩))) (W2.setCell ⟨w.heap.size,2,none⟩ f):=by
 have h3:=zsr W2 w.heap.size 2 _ _ f hx;have h4:∀k,k≠w.heap.size->(W2.setCell ⟨w.heap.size,2,none⟩ f).heap[k]?=W2.heap[k]?:=fun k e=>zsq _ _ _ _ (show k≠w.heap.size from e)
 obtain⟨W3,hW3⟩:∃W3,W2.setCell ⟨w.heap.size,2,none⟩ f=W3:=⟨_,rfl⟩;have hb3:Below w.heap.size w W3:=by rw[<-hW3];exact hb.setCell (zsa _) _
 rw[hW3] at h3 h4 ⊢;have x3:W3.heap[w.heap.size]?=some (.cells #[.pointer (some ⟨pl,0,none⟩),v,f,.pointer none] 114 (0,0)):=by rw[h3];rfl
 have km:zaJ W2 W3:=fun mg g e=>(h4 mg (fun e2=>by rw[e2,hx] at e;exact absurd (zad e) (by decide))).trans e
 have hQn:Q w.heap.size=none:=hm.below0 hlo;have hT3:=zai.keep (zaF hb3) p _ hT;have hqs:qU Q (qOne w.heap.size p) w.heap.size=some p:=zhp hQn (zfW _ _);refine⟨w.heap.size,qU Q (qOne w.heap.size p),rfl,hb3,PcM.union (hm.keep (Nat.le_of_lt hlo) (fun k hk _=>h4 k (by omega)) km) (fun k q e=>?_),?_⟩
 ·obtain⟨rfl,rfl⟩:=zjT e;exact⟨zsa _,hw,v,f,x3,hT3⟩
 ·exact hf.2 w.heap.size W3 _ (Nat.le_of_lt hlo) (fun k hk _=>h4 k (by omega)) km (fun k q e=>zjU e) ⟨zsa _,hqs,⟨v,x3,hT3⟩,hw⟩
theorem zgD(hb:Below w.heap.size w W2)(hx:W2.heap[w.heap.size]?=some (.cells #[.pointer (some ⟨pl,0,none⟩),v,.nilIface,.pointer none] 114 (0,0)))(hn:noG p)(hT:zai w v p)(hw:wPt p<=2000):PcR w pl p (.returned (.pointer (some ⟨w.heap.size,0,none⟩))) W2:=by
 have hT2:=zai.keep (zaF hb) p _ hT;refine⟨w.heap.size,qOne w.heap.size p,rfl,hb,fun k q e=>?_,.leaf _ _ ⟨zsa _,zfW _ _,⟨v,hx,hT2⟩,hw⟩ hn⟩;obtain⟨rfl,rfl⟩:=zjT e;exact⟨zsa _,hw,v,_,hx,hT2⟩
theorem znu(f:Nat->Bool):zce (.set f):=by
 intro pl v w hT hw;have hT':=hT;obtain⟨mg,rfl,hmg⟩:=hT;have a1:∀w,Sem.run Tryz.prog (Instr.typeAssert (.iface 201 (.agg #[.pointer (some ⟨mg,0,none⟩)])) 85 116 true) w=.ok (.tuple #[.agg #[.nilIface,.nilIface],.bool false]) w:=fun w=>by kernel_rfl
 have a2:∀w,Sem.run Tryz.prog (Instr.typeAssert (.iface 201 (.agg #[.pointer (some ⟨mg,0,none⟩)])) 85 118 true) w=.ok (.tuple #[.agg #[.nilIface,.nilIface],.bool false]) w:=fun w=>by kernel_rfl
 have a3:∀w,Sem.run Tryz.prog (Instr.typeAssert (.iface 201 (.agg #[.pointer (some ⟨mg,0,none⟩)])) 85 121 true) w=.ok (.tuple #[.agg #[.nilIface,.int .i64 0,.int .i64 0],.bool false]) w:=fun w=>by kernel_rfl
 have a4:∀w,Sem.run Tryz.prog (Instr.typeAssert (.iface 201 (.agg #[.pointer (some ⟨mg,0,none⟩)])) 85 124 true) w=.ok (.tuple #[.agg #[.nilIface,.int .i64 0],.bool false]) w:=fun w=>by kernel_rfl
 obtain⟨W0,hW0⟩:∃W0,w.alloc (.cells #[.pointer (some ⟨pl,0,none⟩),.iface 201 (.agg #[.pointer (some ⟨mg,0,none⟩)]),.nilIface,.pointer none] 114)=W0:=⟨_,rfl⟩;have hb0:Below w.heap.size w W0:=by rw[<-hW0];exact(Below.refl _ _).alloc (zsa _) _
 have x0:W0.heap[w.heap.size]?=some (.cells #[.pointer (some ⟨pl,0,none⟩),.iface 201 (.agg #[.pointer (some ⟨mg,0,none⟩)]),.nilIface,.pointer none] 114 (0,0)):=by rw[<-hW0];exact zsp _ _
 have HF:=hidF (zgD (p:=.set f) hb0 x0 trivial hT' hw);clear hT' hmg hb0 x0
 go_enter Tryz.func40,Tryz.ntmps40
 go_wp2;go_ret;exact HF.out
theorem znt(l r:Pt)(hIH:∀q,mz q<mz (.seq l r)->zce q):zce (.seq l r):=by
 intro pl v w hT hw;have hT':=hT;obtain⟨lv,rv,rfl,hl,hr⟩:=hT;obtain⟨t1,x1,rfl⟩:=zaz hl;obtain⟨t2,x2,rfl⟩:=zaz hr;have a1:∀w,Sem.run Tryz.prog (Instr.typeAssert (.iface 116 (.agg #[.iface t1 x1,.iface t2 x2])) 85 116 true) w=.ok (.tuple #[.agg #[.iface t1 x1,.iface t2 x2],.bool true]) w:=fun w=>by kernel_rfl
 obtain⟨W0,hW0⟩:∃W0,w.alloc (.cells #[.pointer (some ⟨pl,0,none⟩),.iface 116 (.agg #[.iface t1 x1,.iface t2 x2]),.nilIface,.pointer none] 114)=W0:=⟨_,rfl⟩;have hb0:Below w.heap.size w W0:=by rw[<-hW0];exact(Below.refl _ _).alloc (zsa _) _
 have x0:W0.heap[w.heap.size]?=some (.cells #[.pointer (some ⟨pl,0,none⟩),.iface 116 (.agg #[.iface t1 x1,.iface t2 x2]),.nilIface,.pointer none] 114 (0,0)):=by rw[<-hW0];exact zsp _ _
 have hs0:W0.heap.size=w.heap.size+1:=by rw[<-hW0];simp
 obtain⟨W1,hW1⟩:∃W1,W0.alloc (.cells #[.iface t1 x1,.iface t2 x2] 116)=W1:=⟨_,rfl⟩;have hb1:Below W0.heap.size W0 W1:=by rw[<-hW1];exact(Below.refl _ _).alloc (zsa _) _
 have y1:W1.heap[W0.heap.size]?=some (.cells #[.iface t1 x1,.iface t2 x2] 116 (0,0)):=by rw[<-hW1];exact zsp _ _
 have hb01:Below w.heap.size w W1:=zaa hb0 hb0.size hb1;have x1':=(hb1.block _ (zrc.1 x0).1).trans x0;have hs1:w.heap.size+1<W1.heap.size:=by have:=(zrc.1 y1).1;omega
 have hc:=zld l r hIH pl _ _ W1 (zai.keep (zaF hb01) l _ hl) (zai.keep (zaF hb01) r _ hr) hw;obtain⟨c0,c1⟩:=zay y1;have HT:=hidF hT';clear hT' hl hr hIH y1 x0;rw[hs0] at hb1 c0 c1
 go_enter Tryz.func40,Tryz.ntmps40
 go_wp2_with fail
 refine hc.mono ?_;rintro e2 W2 ⟨Q,fv,rfl,hb2,hm2,hf2⟩;have hb02:Below w.heap.size w W2:=zaa hb01 hb01.size hb2;have x2':=(hb2.block _ (zrc.1 x1').1).trans x1';have HF:=hidF (zdq hb02 x2' hm2 (by omega) (hf2.to w.heap.size) HT.out hw);obtain⟨d2,f2⟩:=za3 x2';have hfv:=hf2.1;clear hc hm2 hf2 x2' c0 c1 hW0 hW1;rcases hfv with rfl|⟨t9,x9,rfl⟩
 ·go_wp2;go_ret;exact HF.out
 ·go_wp2;go_ret;exact HF.out
theorem znq(l r:Pt)(hIH:∀q,mz q<mz (.alt l r)->zce q):zce (.alt l r):=by
 intro pl v w hT hw;have hT':=hT;obtain⟨lv,rv,rfl,hl,hr⟩:=hT;obtain⟨t1,x1,rfl⟩:=zaz hl;obtain⟨t2,x2,rfl⟩:=zaz hr;have a1:∀w,Sem.run Tryz.prog (Instr.typeAssert (.iface 118 (.agg #[.iface t1 x1,.iface t2 x2])) 85 116 true) w=.ok (.tuple #[.agg #[.nilIface,.nilIface],.bool false]) w:=fun w=>by kernel_rfl
 have a2:∀w,Sem.run Tryz.prog (Instr.typeAssert (.iface 118 (.agg #[.iface t1 x1,.iface t2 x2])) 85 118 true) w=.ok (.tuple #[.agg #[.iface t1 x1,.iface t2 x2],.bool true]) w:=fun w=>by kernel_rfl
 obtain⟨W0,hW0⟩:∃W0,w.alloc (.cells #[.pointer (some ⟨pl,0,none⟩),.iface 118 (.agg #[.iface t1 x1,.iface t2 x2]),.nilIface,.pointer none] 114)=W0:=⟨_,rfl⟩;have hb0:Below w.heap.size w W0:=by rw[<-hW0];exact(Below.refl _ _).alloc (zsa _) _
 have x0:W0.heap[w.heap.size]?=some (.cells #[.pointer (some ⟨pl,0,none⟩),.iface 118 (.agg #[.iface t1 x1,.iface t2 x2]),.nilIface,.pointer none] 114 (0,0)):=by rw[<-hW0];exact zsp _ _
 have hs0:W0.heap.size=w.heap.size+1:=by rw[<-hW0];simp
 obtain⟨W1,hW1⟩:∃W1,W0.alloc (.cells #[.iface t1 x1,.iface t2 x2] 118)=W1:=⟨_,rfl⟩;have hb1:Below W0.heap.size W0 W1:=by rw[<-hW1];exact(Below.refl _ _).alloc (zsa _) _
 have y1:W1.heap[W0.heap.size]?=some (.cells #[.iface t1 x1,.iface t2 x2] 118 (0,0)):=by rw[<-hW1];exact zsp _ _
 have hb01:Below w.heap.size w W1:=zaa hb0 hb0.size hb1;have x1':=(hb1.block _ (zrc.1 x0).1).trans x0;have hs1:w.heap.size+1<W1.heap.size:=by have:=(zrc.1 y1).1;omega
 have hc:=zi8 l r hIH pl _ _ W1 (zai.keep (zaF hb01) l _ hl) (zai.keep (zaF hb01) r _ hr) hw;obtain⟨c0,c1⟩:=zay y1;have HT:=hidF hT';clear hT' hl hr hIH y1 x0;rw[hs0] at hb1 c0 c1
 go_enter Tryz.func40,Tryz.ntmps40
 go_wp2_with fail
 refine hc.mono ?_;rintro e2 W2 ⟨Q,fv,rfl,hb2,hm2,hf2⟩;have hb02:Below w.heap.size w W2:=zaa hb01 hb01.size hb2;have x2':=(hb2.block _ (zrc.1 x1').1).trans x1';have HF:=hidF (zdq hb02 x2' hm2 (by omega) (hf2.to w.heap.size) HT.out hw);obtain⟨d2,f2⟩:=za3 x2';have hfv:=hf2.1;clear hc hm2 hf2 x2' c0 c1 hW0 hW1;rcases hfv with rfl|⟨t9,x9,rfl⟩
 ·go_wp2;go_ret;exact HF.out
 ·go_wp2;go_ret;exact HF.out
theorem zns(b:Pt)(mn mx:Int)(hIH:zce b):zce (.rep b mn mx):=by
 intro pl v w hT hw;have hT':=hT;have hwb:=zqw hT hw;obtain⟨lv,rfl,hl,hbd⟩:=hT;obtain⟨t1,x1,rfl⟩:=zaz hl;obtain⟨m,rfl⟩:∃m:Nat,mn=m:=⟨mn.toNat,by simp[zaD] at hbd;omega⟩;have a1:∀w,Sem.run Tryz.prog (Instr.typeAssert (.iface 121 (.agg #[.iface t1 x1,.int .i64 (m:Int),.int .i64 mx])) 85 116 true) w=.ok (.tuple #[.agg #[.nilIface,.nilIface],.bool false]) w:=fun w=>by kernel_rfl
 have a2:∀w,Sem.run Tryz.prog (Instr.typeAssert (.iface 121 (.agg #[.iface t1 x1,.int .i64 (m:Int),.int .i64 mx])) 85 118 true) w=.ok (.tuple #[.agg #[.nilIface,.nilIface],.bool false]) w:=fun w=>by kernel_rfl
 have a3:∀w,Sem.run Tryz.prog (Instr.typeAssert (.iface 121 (.agg #[.iface t1 x1,.int .i64 (m:Int),.int .i64 mx])) 85 121 true) w=.ok (.tuple #[.agg #[.iface t1 x1,.int .i64 (m:Int),.int .i64 mx],.bool true]) w:=fun w=>by kernel_rfl
 obtain⟨W0,hW0⟩:∃W0,w.alloc (.cells #[.pointer (some ⟨pl,0,none⟩),.iface 121 (.agg #[.iface t1 x1,.int .i64 (m:Int),.int .i64 mx]),.nilIface,.pointer none] 114)=W0:=⟨_,rfl⟩;have hb0:Below w.heap.size w W0:=by rw[<-hW0];exact(Below.refl _ _).alloc (zsa _) _
 have x0:W0.heap[w.heap.size]?=some (.cells #[.pointer (some ⟨pl,0,none⟩),.iface 121 (.agg #[.iface t1 x1,.int .i64 (m:Int),.int .i64 mx]),.nilIface,.pointer none] 114 (0,0)):=by rw[<-hW0];exact zsp _ _
 have hs0:W0.heap.size=w.heap.size+1:=by rw[<-hW0];simp
 obtain⟨W1,hW1⟩:∃W1,W0.alloc (.cells #[.iface t1 x1,.int .i64 (m:Int),.int .i64 mx] 121)=W1:=⟨_,rfl⟩;have hb1:Below W0.heap.size W0 W1:=by rw[<-hW1];exact(Below.refl _ _).alloc (zsa _) _
 have y1:W1.heap[W0.heap.size]?=some (.cells #[.iface t1 x1,.int .i64 (m:Int),.int .i64 mx] 121 (0,0)):=by rw[<-hW1];exact zsp _ _
 have hb01:Below w.heap.size w W1:=zaa hb0 hb0.size hb1;have x1':=(hb1.block _ (zrc.1 x0).1).trans x0;have hs1:w.heap.size+1<W1.heap.size:=by have:=(zrc.1 y1).1;omega
 have hc:=hIH pl (.iface t1 x1) W1 (zai.keep (zaF hb01) b _ hl) hwb;obtain⟨c0,c1,c2⟩:=zb3 y1;have HT:=hidF hT';have Hl:=hidF hl;have hyl:=(zrc.1 y1).1;rw[hs0] at hb1 c0 c1 c2 hyl;clear hT' hl hIH y1 x0
 go_enter Tryz.func40,Tryz.ntmps40
 go_wp2_with fail
 refine hc.mono ?_;rintro e2 W2 ⟨a',Q,rfl,hb2,hm2,hp2⟩;have hb02:Below w.heap.size w W2:=zaa hb01 hb01.size hb2;have x2':=(hb2.block _ (zrc.1 x1').1).trans x1';obtain⟨fb,hB2,hnil,hfo⟩:=hp2.blk;obtain⟨vb,hbx,-⟩:=hB2.box;have cb:=(za3 hbx).1;rcases hfo with rfl|⟨t9,x9,rfl⟩
 ·have HF:=hidF (zgD hb02 x2' (show noG (.rep b m mx) from hnil rfl) HT.out hw);clear hc hm2 hp2 x2' hB2 hbx hnil c0 c1 c2;go_wp2;go_ret;exact HF.out
 ·have e0:W2.cell? ⟨w.heap.size+1,0,none⟩=some (.iface t1 x1):=(hb2.cell (p:=⟨w.heap.size+1,0,none⟩) hyl).trans c0;have e1:W2.cell? ⟨w.heap.size+1,1,none⟩=some (.int .i64 (m:Int)):=(hb2.cell (p:=⟨w.heap.size+1,1,none⟩) hyl).trans c1;have e2:W2.cell? ⟨w.heap.size+1,2,none⟩=some (.int .i64 mx):=(hb2.cell (p:=⟨w.heap.size+1,2,none⟩) hyl).trans c2;have hl2:=zai.keep (zaF hb02) b _ Hl.out;have hrp:Calls Tryz.prog 62 #[.pointer (some ⟨pl,0,none⟩),.agg #[.iface t1 x1,.int .i64 (m:Int),.int .i64 mx],.pointer (some ⟨w.heap.size,0,none⟩),.pointer (some ⟨a',0,none⟩)] W2 fun e w'=>RpR w.heap.size W1.heap.size Q W2 pl (.rep b m mx) e w':=by
   by_cases hz:(m:Int)=0/\mx=-1
   ·obtain⟨h1,rfl⟩:=hz;rw[h1];exact zgt pl _ b W2 w.heap.size a' W1.heap.size Q hl2 hp2 hm2
   ·exact zgs pl _ b m mx hbd hz W2 w.heap.size a' W1.heap.size Q hl2 hwb hp2 hm2 hb2.size
  clear hc hm2 hp2 hB2 hbx hnil c0 c1 c2 hl2
  go_wp2_with fail
  refine hrp.mono ?_;rintro e3 W3 ⟨Q3,fv,rfl,hb3,hm3,-,hf3⟩;have hb03:Below w.heap.size w W3:=zaa hb02 hb02.size hb3;have x3':=(hb3.block _ (zrc.1 x2').1).trans x2';have HF:=hidF (zdq hb03 x3' hm3 (by omega) hf3 HT.out hw);obtain⟨d2,f2⟩:=za3 x3';have hfv:=hf3.1;clear hrp hm3 hf3 x3' x2' e0 e1 e2 hW0 hW1;rcases hfv with rfl|⟨t9,x9,rfl⟩
  ·go_wp2;go_ret;exact HF.out
  ·go_wp2;go_ret;exact HF.out
theorem znr(b:Pt)(g:Int)(hIH:zce b):zce (.grp b g):=by
 intro pl v w hT hw;have hT':=hT;obtain⟨lv,rfl,hl⟩:=hT;obtain⟨t1,x1,rfl⟩:=zaz hl;have a1:∀w,Sem.run Tryz.prog (Instr.typeAssert (.iface 124 (.agg #[.iface t1 x1,.int .i64 g])) 85 116 true) w=.ok (.tuple #[.agg #[.nilIface,.nilIface],.bool false]) w:=fun w=>by kernel_rfl
 have a2:∀w,Sem.run Tryz.prog (Instr.typeAssert (.iface 124 (.agg #[.iface t1 x1,.int .i64 g])) 85 118 true) w=.ok (.tuple #[.agg #[.nilIface,.nilIface],.bool false]) w:=fun w=>by kernel_rfl
 have a3:∀w,Sem.run Tryz.prog (Instr.typeAssert (.iface 124 (.agg #[.iface t1 x1,.int .i64 g])) 85 121 true) w=.ok (.tuple #[.agg #[.nilIface,.int .i64 0,.int .i64 0],.bool false]) w:=fun w=>by kernel_rfl
 have a4:∀w,Sem.run Tryz.prog (Instr.typeAssert (.iface 124 (.agg #[.iface t1 x1,.int .i64 g])) 85 124 true) w=.ok (.tuple #[.agg #[.iface t1 x1,.int .i64 g],.bool true]) w:=fun w=>by kernel_rfl
 obtain⟨W0,hW0⟩:∃W0,w.alloc (.cells #[.pointer (some ⟨pl,0,none⟩),.iface 124 (.agg #[.iface t1 x1,.int .i64 g]),.nilIface,.pointer none] 114)=W0:=⟨_,rfl⟩;have hb0:Below w.heap.size w W0:=by rw[<-hW0];exact(Below.refl _ _).alloc (zsa _) _
 have x0:W0.heap[w.heap.size]?=some (.cells #[.pointer (some ⟨pl,0,none⟩),.iface 124 (.agg #[.iface t1 x1,.int .i64 g]),.nilIface,.pointer none] 114 (0,0)):=by rw[<-hW0];exact zsp _ _
 have hs0:W0.heap.size=w.heap.size+1:=by rw[<-hW0];simp
 obtain⟨W1,hW1⟩:∃W1,W0.alloc (.cells #[.iface t1 x1,.int .i64 g] 124)=W1:=⟨_,rfl⟩;have hb1:Below W0.heap.size W0 W1:=by rw[<-hW1];exact(Below.refl _ _).alloc (zsa _) _
 have y1:W1.heap[W0.heap.size]?=some (.cells #[.iface t1 x1,.int .i64 g] 124 (0,0)):=by rw[<-hW1];exact zsp _ _
 have hb01:Below w.heap.size w W1:=zaa hb0 hb0.size hb1;have x1':=(hb1.block _ (zrc.1 x0).1).trans x0;have hs1:w.heap.size+1<W1.heap.size:=by have:=(zrc.1 y1).1;omega
 have hc:=hIH pl (.iface t1 x1) W1.drew (zai.keep (zaF hb01.drew) b _ hl) hw;have hcE:Calls Tryz.prog 40 #[.pointer (some ⟨pl,0,none⟩),.iface t1 x1] W1.drew fun e w'=>∃v,e=.returned v/\PcR W1.drew pl b (.returned v) w':=hc.mono fun e w' h=>by
  obtain⟨a,Q2,rfl,h2⟩:=h;exact⟨_,rfl,a,Q2,rfl,h2⟩
 obtain⟨c0,c1⟩:=zay y1;have Hnx:Hid (∀(v:Value) (W2:World),PcR W1.drew pl b (.returned v) W2->∃a',v=.pointer (some ⟨a',0,none⟩)/\W2.cell? ⟨w.heap.size,2,none⟩=some .nilIface/\W2.frozen? ⟨w.heap.size,2,none⟩=false/\W2.cell? ⟨w.heap.size+1,1,none⟩=some (.int .i64 g)/\PcR w pl (.grp b g) (.returned (.pointer (some ⟨w.heap.size,0,none⟩))) (W2.setCell ⟨w.heap.size,2,none⟩ (.iface 126 (.agg #[.int .i64 g,.pointer (some ⟨a',0,none⟩)])))):=fun v W2 hR=>by
  obtain⟨a',Q,e,hb2,hm2,hp2⟩:=hR;injection e with e
  subst e;have hb02:Below w.heap.size w W2:=zaa hb01.drew (by have:=hb01.size;exact this) hb2;have x2':=(hb2.block _ (zrc.1 x1').1).trans x1';have y2':=(hb2.cell (p:=⟨W0.heap.size,1,none⟩) (zrc.1 y1).1).trans c1;rw[hs0] at y2';exact⟨a',rfl,(za3 x2').1,(za3 x2').2,y2',zdq hb02 x2' hm2 (by have:W1.drew.heap.size=W1.heap.size:=rfl;omega) ((zmJ hp2).to w.heap.size) hT' hw⟩
 rw[hs0] at hb1 c0 c1;clear hT' hl hIH y1 x0 hc x1'
 go_enter Tryz.func40,Tryz.ntmps40
 go_upto_region 16 with fail
 refine wp_mono (Q:=zfj _) ?_ zcc
 go_region_law ((refine zb9 (by rfl) 40 #[.tmp 60,.tmp 62] #[56,85] (by rfl) #[.pointer (some ⟨pl,0,none⟩),.iface t1 x1] (by simp[Act.eval]) _ (zew _ _) hcE ?_;intro v4 W4 hR4;obtain⟨a4,rfl,d4,f4,g4,hF4⟩:=Hnx.out _ W4 hR4;have HF:=hidF hF4;clear hR4 hF4))
 all_goals
  rw[za5];clear hcE d4 f4 g4 c0 c1;go_wp2;go_ret;exact HF.out
theorem zoZ(p:Pt):zce p:=by
 induction hn:mz p using Nat.strongRecOn generalizing p with
 |_ n ih=>
  subst hn;have hk:∀q,mz q<mz p->zce q:=fun q hq=>ih (mz q) hq q rfl
  cases p with
  |set f=>exact znu f
  |seq l r=>exact znt l r hk
  |alt l r=>exact znq l r hk
  |rep b mn mx=>exact zns b mn mx (hk b (zdO (by simp[szT])))
  |grp b g=>exact znr b g (hk b (zdO (by simp[szT])))
end
section
variable {lo pl:Nat}{w:World}{Q:Nat -> Option Pt}{p:Pt}
theorem zfp(t:ByteArray)(a b:Nat):(t.extract a b).data.toList=(t.data.toList.drop a).take (b-a):=by
 simp[ByteArray.data_extract,List.extract]
def AsG(f:Value)(p:Pt):Prop:=∃(g:Int) (gp:Option Addr) (b:Bool),(∀w,Sem.run Tryz.prog (Instr.typeAssert f 111 126 true) w=.ok (.tuple #[.agg #[.int .i64 g,.pointer gp],.bool b]) w)/\((b=true/\∃k,p=.grp k g)\/(b=false/\∀i j,zdL p i j=[]))
theorem PcAt.asG{a:Nat}(h:PcAt lo w pl Q a p):∃f,PcB lo w pl Q a p f/\AsG f p/\((f=.nilIface/\noG p)\/∃t x,f=.iface t x):=by
 cases h with
 |leaf _ _ h1 h2=>exact⟨_,h1,⟨0,none,false,fun w=>by kernel_rfl,.inr ⟨rfl,fun i j=>zh3 h2 i j⟩⟩,.inl ⟨rfl,h2⟩⟩
 |group _ a' b g h1 _=>exact⟨_,h1,⟨g,some ⟨a',0,none⟩,true,fun w=>by kernel_rfl,.inl ⟨rfl,b,rfl⟩⟩,.inr ⟨_,_,rfl⟩⟩
 |choice _ l r go cap xs h1 _ _ _=>exact⟨_,h1,⟨0,none,false,fun w=>by kernel_rfl,.inr ⟨rfl,fun i j=>rfl⟩⟩,.inr ⟨_,_,rfl⟩⟩
 |chain _ _ go cap xs h1 _ _ _ h5 _ _ _=>exact⟨_,h1,⟨0,none,false,fun w=>by kernel_rfl,.inr ⟨rfl,fun i j=>by
   cases p with
   |grp b g=>exact absurd rfl (h5 b g)
   |_=>rfl⟩⟩,.inr ⟨_,_,rfl⟩⟩
 |rounds _ a' b h1 _=>exact⟨_,h1,⟨0,none,false,fun w=>by kernel_rfl,.inr ⟨rfl,fun i j=>rfl⟩⟩,.inr ⟨_,_,rfl⟩⟩
def PlP(w0:World)(pl:Nat)(Q:Nat->Option Pt)(bs bt bp gs m cap:Nat)(t:ByteArray)(Ow:Nat->Nat->Prop)(w:World)(sp:List (Int×Int))(p:Pt)(i j:Nat)(e:Ending)(w':World):Prop:=
 ∃(Ow':Nat->Nat->Prop) (l:List Up),e=.returned (.tuple #[])/\Pl t.data.toList p i j l/\PlW w0 pl Q bs bt bp gs m cap t Ow' w' (upG sp l)/\PlT w0 gs Ow w Ow' w'
def PlC(w0:World)(pl:Nat)(Q:Nat->Option Pt)(lo bs bt bp gs m cap:Nat)(t:ByteArray)(p:Pt):Prop:=
 ∀(w:World) (Ow:Nat->Nat->Prop) (sp:List (Int×Int)) (a i j:Nat),PlW w0 pl Q bs bt bp gs m cap t Ow w sp->PcAt lo w0 pl Q a p->Lg t.data.toList p i j->(∀l,Pl t.data.toList p i j l->∀x∈l,1<=x.1/\x.1<(m:Int))->
  Calls Tryz.prog 68 #[.pointer (some ⟨a,0,none⟩),.int .i64 i,.int .i64 j,.pointer (some ⟨bs,0,none⟩),.pointer (some ⟨bt,0,none⟩),.pointer (some ⟨bp,0,none⟩)] w fun e w'=>PlP w0 pl Q bs bt bp gs m cap t Ow w sp p i j e w'
structure LdA(w0:World)(pl:Nat)(Q:Nat->Option Pt)(lo:Nat)(u:Word)(p:Pt)(i j:Nat)(ys:List Pld):Prop where
 ok:LdOk u j (shL i (lyL ys)) i
 pls:∀l,LdR u (shL i (lyL ys)) i l->Pl u p i j (zdL p i j++l)
 pc:∀y,y∈ys->PcAt lo w0 pl Q y.1 y.2.1/\mz y.2.1<mz p
theorem zp9{w0:World}{Ow:Nat->Nat->Prop}{t:ByteArray}{i j:Nat}{e:Ending}{w':World}(h:PnI w0 pl Q Ow w)(ho:OkP p)(hL:Lg t.data.toList p i j)(hB:LayB w0 pl Q Ow w lo (t.extract i j).data.toList (j-i) p e w'):∃(Ow':Nat->Nat->Prop) (ys:List Pld) (v:Value),e=.returned v/\PnT w0 pl Q Ow w Ow' w'/\w'.ownsRow w.heap.size 141 2 v ys.length (pdL ys)/\(∀k,v.ownBlock=some k->∀b,¬Ow' k b)/\LdA w0 pl Q lo t.data.toList p i j ys:=by
 rcases hB with ⟨h1,rfl,rfl⟩|⟨h1,Ow',ys,v,rfl,h3,h4,h5,h6,h7⟩
 ·refine⟨Ow,[],_,rfl,PnT.of_below h (Below.refl _ _),⟨rfl,.inl ⟨rfl,rfl⟩⟩,fun k e=>by simp[Value.ownBlock] at e,⟨trivial,fun l hl=>?_,fun y hy=>by cases hy⟩⟩;cases hl;rw[zh3 h1,zrm];obtain⟨l,hl⟩:=zcj p ho i j hL;have:=zfV p h1 i j l hl;subst this;exact hl
 ·rw[zfp] at h6;have hij:=hL.1;have hju:=hL.2.1;have h8:=zoL (u:=t.data.toList) (i:=i) (n:=j-i) (by omega) p _ h6;rw[show i+(j-i)=j from by omega] at h8;obtain⟨k1,k2⟩:=zqb hju p _ ho h1 hL h8;exact⟨Ow',ys,v,rfl,h3,h4,h5,⟨k1,k2,fun y hy=>⟨h7 y hy,zqa p _ h6 y.2 (zrV.2 ⟨y,hy,rfl⟩)⟩⟩⟩
end
variable {ys:List Pld}{cap pl lo bs bt bp gs m:Nat}{w0:World}{Q:Nat -> Option Pt}{t:ByteArray}
theorem zoQ{k:Nat}{y:Pld}(h:ys[k]?=some y)(i:Nat):shL i (lyL (ys.drop k))=(y.2.1,i+y.2.2)::shL i (lyL (ys.drop (k+1))):=by
 have hk:=(zrF.1 h).1;rw[zrp hk,(zrF.1 h).2]
 rfl
theorem zqj{w:World}{B n g:Nat}(h:w.ownsRow B 141 2 (.slice (some ⟨g,0,none⟩) n cap) ys.length (pdL ys)){k:Nat}{y:Pld}(hy:ys[k]?=some y):w.cell? ⟨g,k*2,none⟩=some (.pointer (some ⟨y.1,0,none⟩))/\w.cell? ⟨g,k*2+1,none⟩=some (.int .i64 (y.2.2:Int)):=by
 have hk:=(zrF.1 hy).1;obtain⟨h1,h2⟩:=znp ys k y.1 y.2.1 y.2.2 hy;have hn:n=ys.length:=by
  rcases h.2 with ⟨e,_⟩|⟨g',c',cur,e,_⟩
  ·cases e
  ·cases e;rfl
 subst hn;have e:∀n,(⟨g,0,none⟩:Addr).add n=⟨g,n,none⟩:=fun n=>by unfold Addr.add;split<;>simp_all
 have c1:=zcR h (k*2) _ h1;have c2:=zcR h (k*2+1) _ h2;rw[e] at c1 c2;exact⟨c1,c2⟩
theorem zlR(ht:t.size<=4096)(p:Pt)(hIH:∀q,mz q<mz p->PlC w0 pl Q lo bs bt bp gs m cap t q):PlC w0 pl Q lo bs bt bp gs m cap t p:=by
 intro w Ow sp a i j hW hp hL hG;obtain⟨f,hB,⟨g,gp,isg,hass,hisg⟩,hfv⟩:=hp.asG;have c2:=(hW.inv.form hB).1;have ho:=hW.inv.okP hp.q;have hij:=hL.1;have hju:j<=t.size:=by have:=hL.2.1;simpa using this
 have hws:=hW.inv.size;obtain⟨W0,hW0⟩:∃W0,w.alloc (.cells #[.int .i64 g,.pointer gp] 126)=W0:=⟨_,rfl⟩;have hb0:Below w.heap.size w W0:=by rw[<-hW0];exact(Below.refl _ _).alloc (zsa _) _
 obtain⟨hP0,hT0⟩:=hW.pnt (PnT.of_below hW.inv hb0);have x0:W0.heap[w.heap.size]?=some (.cells #[.int .i64 g,.pointer gp] 126 (0,0)):=by rw[<-hW0];exact zsp _ _
 have y0:=(zay x0).1;have cs0:W0.cell? ⟨bs,0,none⟩=some (.slice (some ⟨gs,0,none⟩) m cap):=(zsm _ _ _ _ _ _ hP0.xs:_=_);have hlay:=fun(W:World) (Ow1:Nat->Nat->Prop) (hI:PnI w0 pl Q Ow1 W)=>zjP W hI lo a p hp (t.extract i j) (by rw[ByteArray.size_extract];omega) (by rw[zfp];have:=(zdx (u:=t.data.toList) (i:=i) (n:=j-i) (by simp;omega) (p:=p) (a:=0) (b:=j-i) (zsa _)).2 (by rw[zr9,show i+(j-i)=j from by omega];exact hL);rw[show (t.extract i j).size=j-i from by rw[ByteArray.size_extract];omega];exact this)
 have HW:=hidF hW;have HP0:=hidF hP0;have HT0:=hidF hT0;have Hp:=hidF hp;have HL:=hidF hL;have HG:=hidF hG;have Hlay:=hidF hlay;have HIH:=hidF hIH;have hex:(t.extract i j).size=j-i:=by rw[ByteArray.size_extract];omega
 clear hW hP0 hT0 hp hL hG hlay hIH x0
 go_enter Tryz.func68,Tryz.ntmps68
 go_step3
 go_upto_if 23 with fail
 go_cut [] from 9 to 30 (fun wx=>Hid (PlW w0 pl Q bs bt bp gs m cap t Ow wx (upG sp (zdL p i j)))/\Hid (PlT w0 gs Ow w Ow wx))
 case first=>
  clear Hlay HIH;cases isg with
  |false=>
   have HF:Hid (PlW w0 pl Q bs bt bp gs m cap t Ow W0 (upG sp (zdL p i j))):=by
    rcases hisg with ⟨e,_⟩|⟨_,e⟩
    ·cases e
    ·show PlW _ _ _ _ _ _ _ _ _ _ _ _ _;rw[e];exact HP0.out
   clear hisg y0 cs0;go_wp2
   go_meet
   exact⟨HF,HT0⟩
  |true=>
   obtain⟨kk,hpk⟩:∃k,p=.grp k g:=by
    rcases hisg with ⟨_,e⟩|⟨e,_⟩
    ·exact e
    ·cases e
   have hg1:1<=g/\g<(m:Int):=by
    obtain⟨l,hl⟩:=zcj p ho i j HL.out;rw[hpk] at hl;obtain⟨l',rfl,hl'⟩:=hl;exact HG.out _ (by rw[hpk];exact⟨l',rfl,hl'⟩) (g,i,j) (by simp)
   obtain⟨gi,rfl⟩:∃gi:Nat,g=gi:=⟨g.toNat,by omega⟩;have hgm:gi<m:=by omega
   obtain⟨hPs,hTs⟩:=HP0.out.store gi hgm (i:Int) (j:Int);have HF:Hid (PlW w0 pl Q bs bt bp gs m cap t Ow ((W0.setCell ⟨gs,gi*2,none⟩ (.int .i64 i)).setCell ⟨gs,gi*2+1,none⟩ (.int .i64 j)) (upG sp (zdL p i j))):=by
    have e:upG sp (zdL p i j)=sp.set gi ((i:Int),(j:Int)):=by rw[hpk];show sp.set (gi:Int).toNat _=_;rw[zri]
    rw[e];exact hPs
   have HT:=hidF (HT0.out.trans hTs);obtain⟨u0,u1,s0,s1,f0,f1⟩:=zfS HP0.out.row hgm;have hg0:(0:Int)<=(gi:Int):=by omega
   have hg2:(gi:Int)<(m:Int):=by omega
   clear hisg hpk hg1 hPs hTs;go_wp2
   go_meet
   exact⟨HF,HT⟩
 case rest=>
  obtain⟨HP1,HT1⟩:=hcut;have hl:=Hlay.out wc Ow HP1.out.inv;have ct:wc.cell? ⟨bt,0,none⟩=some (.string t):=(zsm _ _ _ _ _ _ HP1.out.xt:_=_);clear Hlay hisg hass hfv y0 cs0 c2 hb0 HP0 HT0;have i0:(0:Int)<=(i:Int):=by omega
  have i1:(i:Int)<=(j:Int):=by omega
  have i2:(j:Int)<=(t.size:Int):=by omega
  go_wp2
  go_step3
  go_wp2_with fail
  refine hl.mono ?_;rintro e2 W2 hB2;rw[hex] at hB2;obtain⟨Ow2,ys,v,rfl,hT2,own2,hob2,hld⟩:=zp9 HP1.out.inv ho HL.out hB2;obtain⟨hP2,hT2'⟩:=HP1.out.pnt hT2;have hT02:=HT1.out.trans hT2';have hcs:=HT1.out.size;obtain⟨va,vc,hv,hn9⟩:∃va vc,v=.slice va ys.length vc/\ys.length<=maxLen:=by
   rcases own2.2 with ⟨e,e2⟩|⟨g,c,cur,e,_,_,e3,e4,_⟩
   ·exact⟨_,_,e2 ▸ e,by omega⟩
   ·exact⟨_,_,e,by omega⟩
  subst hv;obtain⟨n,Hn⟩:∃n,Hid (ys.length=n):=⟨_,rfl⟩;rw[Hn.out] at own2 hob2 hn9 ⊢;have hgl:=HW.out.glt;have Hob:Hid (∀k,(Value.slice va n vc).ownBlock=some k->k≠gs/\w0.heap.size<=k/\w.heap.size<=k/\k<W2.heap.size/\∀b,¬Ow2 k b):=fun k e=>by
   obtain⟨z1,cur,z2⟩:=zaR own2 e;exact⟨by omega,by omega,by omega,(zrc.1 z2).1,hob2 k e⟩
  have Hget:Hid (∀k,k<n->∃y:Pld,ys[k]?=some y/\y∈ys):=fun k hk=>by
   have hk':k<ys.length:=by have:=Hn.out;omega
   exact⟨_,zrD hk',zrJ _⟩
  have Hok:Hid (∀y,y∈ys->OkP y.2.1):=fun y hy=>HW.out.inv.okP (hld.pc y hy).1.q
  have Hrest:Hid (∀k at',LdOk t.data.toList j (shL i (lyL (ys.drop k))) at'->∃l2,LdR t.data.toList (shL i (lyL (ys.drop k))) at' l2):=fun k at' h=>zkz _ _ h fun x hx=>by
   obtain⟨z,z1,rfl⟩:=zrV.1 hx;obtain⟨y,z2,rfl⟩:=zrV.1 z1;exact Hok.out y (List.mem_of_mem_drop z2)
  have Hnil:Hid (shL i (lyL (ys.drop n))=[]):=by show _=_;rw[<-Hn.out];simp[lyL,shL]
  have HP2:=hidF hP2;have HT2:=hidF hT02;have Hown:=hidF own2;have Hld:=hidF hld;have hn63:n<=9223372036854775807:=by unfold maxLen at hn9;omega
  clear hl hB2 hT2 hP2 hT2' hT02 own2 hob2 hld HP1 HT1 hn9 ct;go_wp2
  go_loopw [11,39] (fun av iv wr=>∃(k at':Nat) (OwW:Nat->Nat->Prop) (l1:List Up),av=.int .i64 at'/\iv=.int .i64 k/\k<=n/\at'<=j/\Hid (PlW w0 pl Q bs bt bp gs m cap t OwW wr (upG sp (zdL p i j++l1)))/\Hid (PlT w0 gs Ow w OwW wr)/\Hid (LdOk t.data.toList j (shL i (lyL (ys.drop k))) at')/\Hid (∀l2,LdR t.data.toList (shL i (lyL (ys.drop k))) at' l2->Pl t.data.toList p i j (zdL p i j++(l1++l2)))/\Hid (wr.ownsRow wc.heap.size 141 2 (.slice va n vc) n (pdL ys))/\Hid (∀k,(Value.slice va n vc).ownBlock=some k->∀b,¬OwW k b))
   (fun _ iv _=>n-(intOf iv).toNat)
  case atStart=>exact⟨0,i,Ow2,[],rfl,rfl,zsj _,hij,by rw[zrm];exact HP2,HT2,Hld.out.ok,Hld.out.pls,Hown,fun k e=>(Hob.out k e).2.2.2.2⟩
  case round=>
   clear HP2 HT2 Hown;obtain⟨k,at',OwW,l1,rfl,rfl,hkn,hatj,HP,HT,HO,HC,Hown,Hfr⟩:=hrel
   by_cases hlt:k<n
   ·have hd:decide ((k:Int)<(n:Int))=true:=by simp;omega
    obtain⟨⟨ya,yq,ye⟩,hy,hym⟩:=Hget.out k hlt;obtain⟨hpc,hmz⟩:=Hld.out.pc _ hym;obtain⟨gv,rfl⟩:∃gv,va=some ⟨gv,0,none⟩:=by
     rcases Hown.out.2 with ⟨e,e2⟩|⟨g,c,cur,e,_⟩
     ·omega
     ·injection e with e1 e2 e3;exact⟨_,e1⟩
    obtain⟨l0,l1'⟩:=zqj (by rw[Hn.out];exact Hown.out) hy;simp only at l0 l1' hpc hmz;obtain⟨V,hV⟩:∃V,wr.alloc (.cells #[.pointer (some ⟨ya,0,none⟩),.int .i64 (ye:Int)] 141)=V:=⟨_,rfl⟩;have hbV:Below wr.heap.size wr V:=by rw[<-hV];exact(Below.refl _ _).alloc (zsa _) _
    have xV:V.heap[wr.heap.size]?=some (.cells #[.pointer (some ⟨ya,0,none⟩),.int .i64 (ye:Int)] 141 (0,0)):=by rw[<-hV];exact zsp _ _
    have v0:=(zay xV).1;have v1:=(zay xV).2;obtain⟨hPV,hTV⟩:=HP.out.pnt (PnT.of_below HP.out.inv hbV);obtain⟨fy,hBy,-,hfy⟩:=hpc.asG;have cy:=(hPV.inv.form hBy).1;have hlk:=zoQ hy i;simp only at hlk;have hok:=HO.out;rw[hlk] at hok;obtain⟨k1,k2,k3⟩:=hok;have hk0:(0:Int)<=(k:Int):=by omega
    have hk1:(k:Int)<(n:Int):=by omega
    have hs0:(0:Int)<=(i:Int)+(ye:Int):=by omega
    have hs1:(i:Int)+(ye:Int)<=4096:=by omega
    have Hlk:=hidF hlk;have HO2:=hidF k3;have HPV:=hidF hPV;have HTV:=hidF (HT.out.trans hTV);have HLk:=hidF k1;have hrow:∀W:World,(∀g,(Value.slice (some ⟨gv,0,none⟩) n vc).ownBlock=some g->W.heap[g]?=wr.heap[g]?)->W.ownsRow wc.heap.size 141 2 (.slice (some ⟨gv,0,none⟩) n vc) n (pdL ys):=fun W hW=>zaO Hown.out hW
    have Hrow:=hidF hrow;have cp:V.cell? ⟨bp,0,none⟩=some (.func (.func 68) #[] #[.pointer (some ⟨bs,0,none⟩),.pointer (some ⟨bt,0,none⟩),.pointer (some ⟨bp,0,none⟩)]):=(zsm _ _ _ _ _ _ hPV.xp:_=_);have Hgv:Hid (gv<wr.heap.size/\gv≠gs/\w0.heap.size<=gv):=by
     have z:=Hob.out gv (by simp[Value.ownBlock]);exact⟨(zcP Hown.out).2.2.1,z.1,z.2.1⟩
    have HbV:=hidF hbV;clear hPV hTV k1 k3 hrow hbV xV;rcases hfy with ⟨rfl,hno⟩|⟨ty,xx,rfl⟩
    ·have HC2:Hid (∀l2,LdR t.data.toList (shL i (lyL (ys.drop (k+1)))) (i+ye) l2->Pl t.data.toList p i j (zdL p i j++(l1++l2))):=fun l2 h2=>by
      obtain⟨l3,h3⟩:=zcj yq (Hok.out _ hym) at' (i+ye) HLk.out;have e3:=zfV yq hno _ _ _ h3;subst e3;exact HC.out ([]++l2) (by rw[Hlk.out];exact .cons _ _ _ _ _ _ h3 h2)
     clear HC HO HP HT;go_wp2
     go_roundw
     case rel=>exact⟨k+1,i+ye,OwW,l1,by go_num,by go_num,by omega,k2,HPV,HTV,HO2,HC2,Hrow.out V (fun g e=>by
       have e:gv=g:=by simpa [Value.ownBlock] using e
       subst e;exact HbV.out.block _ Hgv.out.1),Hfr⟩
     case measure=>simp[intOf];omega
    ·have hc:=HIH.out yq hmz V OwW (upG sp (zdL p i j++l1)) ya at' (i+ye) HPV.out hpc HLk.out (fun l hl x hx=>by
      obtain⟨l2,h2⟩:=Hrest.out (k+1) (i+ye) HO2.out;exact HG.out _ (HC.out (l++l2) (by rw[Hlk.out];exact .cons _ _ _ _ _ _ hl h2)) x (by simp[hx]))
     rw[show ((i+ye:Nat):Int)=(i:Int)+(ye:Int) from by omega] at hc
     go_wp2_with fail
     refine hc.mono ?_;rintro e3 W3 ⟨Ow3,l3,rfl,h3,hP3,hT3⟩;have HC3:Hid (∀l2,LdR t.data.toList (shL i (lyL (ys.drop (k+1)))) (i+ye) l2->Pl t.data.toList p i j (zdL p i j++((l1++l3)++l2))):=fun l2 h2=>by
      have:=HC.out (l3++l2) (by rw[Hlk.out];exact .cons _ _ _ _ _ _ h3 h2);rw[zrl];exact this
     have HP3:Hid (PlW w0 pl Q bs bt bp gs m cap t Ow3 W3 (upG sp (zdL p i j++(l1++l3)))):=by
      show PlW _ _ _ _ _ _ _ _ _ _ _ _ _;rw[<-zrl,zeG];exact hP3
     have HT3:=hidF (HTV.out.trans hT3);have hgV:=HbV.out.size;have Hg3:Hid (W3.heap[gv]?=wr.heap[gv]?/\∀b,¬Ow3 gv b):=by
      obtain⟨z1,z2⟩:=hT3.fre gv Hgv.out.2.2 (by have:=Hgv.out.1;omega) Hgv.out.2.1 (Hfr.out gv (by simp[Value.ownBlock]));exact⟨z1.trans (HbV.out.block _ Hgv.out.1),z2⟩
     clear hc h3 hP3 hT3 HC HO HP HT HPV HTV;go_wp2
     go_roundw
     case rel=>exact⟨k+1,i+ye,Ow3,l1++l3,by go_num,by go_num,by omega,k2,HP3,HT3,HO2,HC3,Hrow.out W3 (fun g e=>by
       have e:gv=g:=by simpa [Value.ownBlock] using e
       subst e;exact Hg3.out.1),fun g e=>by
       have e:gv=g:=by simpa [Value.ownBlock] using e
       subst e;exact Hg3.out.2⟩
     case measure=>simp[intOf];omega
   ·obtain rfl:k=n:=by omega
    have hd:decide ((k:Int)<(k:Int))=false:=by simp
    have HF:Hid (PlP w0 pl Q bs bt bp gs m cap t Ow w sp p i j (.returned (.tuple #[])) wr):=by
     refine⟨OwW,zdL p i j++l1,rfl,?_,HP.out,HT.out⟩;have:=HC.out [] (by rw[Hnil.out];exact .nil _);rw[zrm] at this;exact this
    clear HP HT HO HC Hown Hfr;go_wp2;exact bodyPost_end (v:=.tuple #[]) (results_none rfl _ _ _) rfl HF.out
theorem zo0(ht:t.size<=4096)(p:Pt):PlC w0 pl Q lo bs bt bp gs m cap t p:=by
 induction hn:mz p using Nat.strongRecOn generalizing p with
 |_ n ih=>subst hn;exact zlR ht p fun q hq=>ih (mz q) hq q rfl
end Go.Proofs.YthdljcdbfmhleaaGreatDoor
