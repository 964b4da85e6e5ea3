import Derived.Test.YtdimhpfiieepiaaGreatDoorC3
import Derived.Deep.RegionHeld3
import Derived.Deep.DrawnRows
namespace Go.Proofs.YtdimhpfiieepiaaGreatDoor
open Proofs.Tryz
open Go renaming Value->za,World->zc
open RowKit renaming Below->zb
set_option maxHeartbeats 1000000
set_option maxRecDepth 100000
open Go.RowKit
attribute [local go_sem ↓] wp_at_zero wp_at_succ
variable {o:Oper}{a:Act}{K:Act -> zc -> Prop}{Q:Exit -> Act -> zc -> Prop}{ops:Array Oper}
def PR(nm:String):Prop:=
 (∀(x:za) (w:zc),(callMethod (.iface 297 x) nm #[]).run prog w=.ok (.enter 226 #[x]) w)/\
 (∀(x:za) (w:zc),(callMethod (.iface 256 x) nm #[]).run prog w=.ok (.enter 221 #[x]) w)/\
 (∀(x:za) (w:zc),(callMethod (.iface 258 x) nm #[]).run prog w=.ok (.enter 222 #[x]) w)/\
 (∀(x:za) (w:zc),(callMethod (.iface 261 x) nm #[]).run prog w=.ok (.enter 223 #[x]) w)/\
 (∀(x:za) (w:zc),(callMethod (.iface 264 x) nm #[]).run prog w=.ok (.enter 224 #[x]) w)
def qN(v:za)(wt:Int):Prop:=
 ∀nm,PR nm->∃f x,(∀w,(callMethod v nm #[]).run prog w=.ok (.enter f #[x]) w)/\∀w,Calls prog f #[x] w λe w'=>e=.returned (.int .i64 wt)/\zb w.heap.size w w'
theorem zkK(w:zc)(x:Operand)(nm:String)(ho:o.op=.call {callee:=.invoke x nm,args:=#[],argTypes:=#[]})
  (v:za) (wt:Int) (hx:a.eval x=v) (hp:qN v wt) (hn:PR nm) (h:∀w',zb w.heap.size w w'->K (a.put o.dst (.int .i64 wt)) w'):o.wp prog a w K Q:=by
 obtain⟨f,y,h1,h2⟩:=hp nm hn;unfold Oper.wp execOp;simp only[ho,resolve,invoke,Sem.run_bind,Sem.run_pure,Result.andThen_ok,List.map_toArray,List.map_nil,hx];have e0:(#[v]++([]:List za).toArray)[0]?=some v:=by simp
 simp only[e0];have e1:(#[v]++([]:List za).toArray).extract 1 (#[v]++([]:List za).toArray).size=#[]:=by simp
 rw[e1,h1,Oper.upon_enter];refine(h2 w).mono ?_;rintro e w' ⟨rfl,hb⟩;exact h w' hb
theorem H9{rest:List Oper}(w:zc)(lY:o.guard=none)(x:Operand)(nm:String)(ho:o.op=.call {callee:=.invoke x nm,args:=#[],argTypes:=#[]})
  (v:za) (wt:Int) (hx:a.eval x=v) (hp:qN v wt) (hn:PR nm) (h:∀w',zb w.heap.size w w'->wpList prog ops Q rest (a.put o.dst (.int .i64 wt)) w'):wpList prog ops Q (o::rest) a w:=
 wpList_plain lY λ_ hK=>zkK w x nm ho v wt hx hp hn λw' hb=>hK _ _ (h w' hb)
theorem OZ{E:Prop}(w:zc)(lY:o.guard=none)(x:Operand)(nm:String)(ho:o.op=.call {callee:=.invoke x nm,args:=#[],argTypes:=#[]})
  (v:za) (wt:Int) (hx:a.eval x=v) (hp:qN v wt) (hn:PR nm) (h:∀w',zb w.heap.size w w'->K (a.put o.dst (.int .i64 wt)) w'):
  if Region.wanted o (yielded ops a.tmps)=true then Oper.wp prog o a w K Q else E:=by
 have hw:Region.wanted o (yielded ops a.tmps)=true:=by simp[Region.wanted,lY]
 rw[aD hw];exact zkK w x nm ho v wt hx hp hn h
theorem zim(x:za):qN (.iface 297 (.agg #[x])) 1:=by
 intro nm hN;refine⟨_,_,hN.1 _,λw=>?_⟩;clear hN
 go_enter func226,ntmps226
 go_wp2;go_ret;exact⟨rfl,au⟩
theorem zij(v:za)(g wt:Int)(h:qN v wt):qN (.iface 264 (.agg #[v,.int .i64 g])) wt:=by
 intro nm hN;refine⟨_,_,hN.2.2.2.2 _,λw=>?_⟩;clear hN
 go_enter func224,ntmps224
 go_wp2_with (refine H9 _ rfl _ _ rfl _ _ rfl h ⟨λ_ _=>by kernel_rfl,λ_ _=>by kernel_rfl,λ_ _=>by kernel_rfl,λ_ _=>by kernel_rfl,λ_ _=>by kernel_rfl⟩ ?_;intro w2 af)
 go_ret
 exact⟨rfl,aj (au) (by simp) af⟩
theorem P0{w wx w2:zc}{g:Nat}{l r:za}(hb:zb wx.heap.size wx w2)(h:zb g w wx/\g<wx.heap.size/\wx.cell? ⟨g,0,none⟩=some l/\wx.cell? ⟨g,1,none⟩=some r):
  zb g w w2/\g<w2.heap.size/\w2.cell? ⟨g,0,none⟩=some l/\w2.cell? ⟨g,1,none⟩=some r:=
 ⟨h.1.trans (hb.mono (by omega)),bA h.2.1 hb.size,(hb.cell h.2.1).trans h.2.2.1,(hb.cell h.2.1).trans h.2.2.2⟩
theorem zil(l r:za)(a b:Int)(hl:qN l a)(hr:qN r b)(Cj:0<=a)(Se:a<=2001)(ae:0<=b)(ak:b<=2001):qN (.iface 256 (.agg #[l,r])) (cJ (a+b)):=by
 intro nm hN;refine⟨_,_,hN.2.1 _,λw=>?_⟩;clear hN;have jx:IntKind.i64.wrap (a+b)=a+b:=by rw[IntKind.wrap_i64];omega
 have vW:zb w.heap.size w (w.alloc (.cells #[l,r] 256)).drew:=(au).drew
 go_enter func221,ntmps221
 go_wp2
 go_region_held3 (λw'=>zb w.heap.size w w'/\w.heap.size<w'.heap.size/\w'.cell? ⟨w.heap.size,0,none⟩=some l/\w'.cell? ⟨w.heap.size,1,none⟩=some r) ((first|go_keep|exact P0 af (by assumption)|exact P0 ay (by assumption))) ((first|(refine OZ _ rfl (.tmp 4) _ (by rfl) _ _ (by rfl) hl ⟨λ_ _=>by kernel_rfl,λ_ _=>by kernel_rfl,λ_ _=>by kernel_rfl,λ_ _=>by kernel_rfl,λ_ _=>by kernel_rfl⟩ ?_;intro w2 af)|(refine OZ _ rfl (.tmp 7) _ (by rfl) _ _ (by rfl) hr ⟨λ_ _=>by kernel_rfl,λ_ _=>by kernel_rfl,λ_ _=>by kernel_rfl,λ_ _=>by kernel_rfl,λ_ _=>by kernel_rfl⟩ ?_;intro w3 ay)|(go_at_call 121;refine(HU _ _).mono ?_;rintro e w4 ⟨rfl,rfl⟩)))
 all_goals
  have j9:=‹zb w.heap.size w _/\_›;go_wp2;go_ret;exact⟨rfl,j9.1⟩
theorem zii(l r:za)(a b:Int)(hl:qN l a)(hr:qN r b)(Cj:0<=a)(Se:a<=2001)(ae:0<=b)(ak:b<=2001):qN (.iface 258 (.agg #[l,r])) (cJ (a+b)):=by
 intro nm hN;refine⟨_,_,hN.2.2.1 _,λw=>?_⟩;clear hN;have jx:IntKind.i64.wrap (a+b)=a+b:=by rw[IntKind.wrap_i64];omega
 have vW:zb w.heap.size w (w.alloc (.cells #[l,r] 258)).drew:=(au).drew
 go_enter func222,ntmps222
 go_wp2
 go_region_held3 (λw'=>zb w.heap.size w w'/\w.heap.size<w'.heap.size/\w'.cell? ⟨w.heap.size,0,none⟩=some l/\w'.cell? ⟨w.heap.size,1,none⟩=some r) ((first|go_keep|exact P0 af (by assumption)|exact P0 ay (by assumption))) ((first|(refine OZ _ rfl (.tmp 4) _ (by rfl) _ _ (by rfl) hl ⟨λ_ _=>by kernel_rfl,λ_ _=>by kernel_rfl,λ_ _=>by kernel_rfl,λ_ _=>by kernel_rfl,λ_ _=>by kernel_rfl⟩ ?_;intro w2 af)|(refine OZ _ rfl (.tmp 7) _ (by rfl) _ _ (by rfl) hr ⟨λ_ _=>by kernel_rfl,λ_ _=>by kernel_rfl,λ_ _=>by kernel_rfl,λ_ _=>by kernel_rfl,λ_ _=>by kernel_rfl⟩ ?_;intro w3 ay)|(go_at_call 121;refine(HU _ _).mono ?_;rintro e w4 ⟨rfl,rfl⟩)))
 all_goals
  have j9:=‹zb w.heap.size w _/\_›;go_wp2;go_ret;exact⟨rfl,j9.1⟩
theorem E2{mn mx:Int}(h:eK mn mx=true):1<=dV mn mx/\dV mn mx<=256:=by
 simp[eK]at h;unfold dV;split
 ·omega
 ·split<;>omega
theorem zik(l:za)(a mn mx:Int)(hl:qN l a)(Cj:0<=a)(Se:a<=2001)(dZ:eK mn mx=true):qN (.iface 261 (.agg #[l,.int .i64 mn,.int .i64 mx])) (cJ (a*dV mn mx)):=by
 intro nm hN;refine⟨_,_,hN.2.2.2.1 _,λw=>?_⟩;clear hN;have nR:=E2 dZ;have fk:0<=a*dV mn mx:=Int.mul_nonneg Cj (by omega);have cO:a*dV mn mx<=2001*256:=Int.mul_le_mul Se nR.2 (by omega) (by omega);simp[eK]at dZ
 by_cases hx:mx=-1
 ·subst hx;have hcc:dV mn (-1)=mn+1:=by simp[dV]
  rw[hcc]at fk cO ⊢;clear hcc nR;have jx:IntKind.i64.wrap (a*(mn+1))=a*(mn+1):=by rw[IntKind.wrap_i64];omega
  obtain⟨ak,Sl⟩:=dZ
  go_enter func223,ntmps223
  go_wp2_with (first|(refine H9 _ rfl (.tmp 14) _ rfl _ _ rfl hl ⟨λ_ _=>by kernel_rfl,λ_ _=>by kernel_rfl,λ_ _=>by kernel_rfl,λ_ _=>by kernel_rfl,λ_ _=>by kernel_rfl⟩ ?_;intro w2 af)|(go_at_call 121;refine(HU _ _).mono ?_;rintro e w4 ⟨rfl,rfl⟩))
  go_ret
  exact⟨rfl,aj (au) (by simp) af⟩
 ·have uK:(mx == -1)=false:=eu.2 hx;obtain⟨ak,Sl⟩:=dZ
  by_cases h1:1<=mx
  ·have hcc:dV mn mx=mx:=by simp[dV,hx];omega
   rw[hcc]at fk cO ⊢;have jx:IntKind.i64.wrap (a*mx)=a*mx:=by rw[IntKind.wrap_i64];omega
   clear hcc nR hx Sl
   go_enter func223,ntmps223
   go_wp2_with (first|(refine H9 _ rfl (.tmp 14) _ rfl _ _ rfl hl ⟨λ_ _=>by kernel_rfl,λ_ _=>by kernel_rfl,λ_ _=>by kernel_rfl,λ_ _=>by kernel_rfl,λ_ _=>by kernel_rfl⟩ ?_;intro w2 af)|(go_at_call 121;refine(HU _ _).mono ?_;rintro e w4 ⟨rfl,rfl⟩))
   go_ret
   exact⟨rfl,aj (au) (by simp) af⟩
  ·have hcc:dV mn mx=1:=by simp[dV,hx];omega
   rw[hcc]at fk cO ⊢;rw[Int.mul_one];have jx:IntKind.i64.wrap a=a:=by rw[IntKind.wrap_i64];omega
   clear hcc nR hx Sl fk cO
   go_enter func223,ntmps223
   go_wp2_with (first|(refine H9 _ rfl (.tmp 14) _ rfl _ _ rfl hl ⟨λ_ _=>by kernel_rfl,λ_ _=>by kernel_rfl,λ_ _=>by kernel_rfl,λ_ _=>by kernel_rfl,λ_ _=>by kernel_rfl⟩ ?_;intro w2 af)|(go_at_call 121;refine(HU _ _).mono ?_;rintro e w4 ⟨rfl,rfl⟩))
   go_ret
   exact⟨rfl,aj (au) (by simp) af⟩
end Go.Proofs.YtdimhpfiieepiaaGreatDoor
