import Derived.Test.YthdljcdbfmhleaaGreatDoorC11
import Derived.Deep.RegionHeld3
import Derived.Deep.DrawnRows
namespace Go.Proofs.YthdljcdbfmhleaaGreatDoor
set_option maxHeartbeats 1000000
set_option maxRecDepth 100000
open Go.RowKit
attribute [local go_sem ↓] Go.wp_at_zero Go.wp_at_succ
variable {o:Oper}{a:Act}{K:Act -> World -> Prop}{Q:Exit -> Act -> World -> Prop}{ops:Array Oper}
def zkg(nm:String):Prop:=
 (∀(x:Value) (w:World),(callMethod (.iface 201 x) nm #[]).run Tryz.prog w=.ok (.enter 164 #[x]) w)/\
 (∀(x:Value) (w:World),(callMethod (.iface 116 x) nm #[]).run Tryz.prog w=.ok (.enter 149 #[x]) w)/\
 (∀(x:Value) (w:World),(callMethod (.iface 118 x) nm #[]).run Tryz.prog w=.ok (.enter 150 #[x]) w)/\
 (∀(x:Value) (w:World),(callMethod (.iface 121 x) nm #[]).run Tryz.prog w=.ok (.enter 151 #[x]) w)/\
 (∀(x:Value) (w:World),(callMethod (.iface 124 x) nm #[]).run Tryz.prog w=.ok (.enter 152 #[x]) w)
def zb6(v:Value)(wt:Int):Prop:=
 ∀nm,zkg nm->∃f x,(∀w,(callMethod v nm #[]).run Tryz.prog w=.ok (.enter f #[x]) w)/\∀w,Calls Tryz.prog f #[x] w fun e w'=>e=.returned (.int .i64 wt)/\Below w.heap.size w w'
theorem ziT(w:World)(x:Operand)(nm:String)(ho:o.op=.call {callee:=.invoke x nm,args:=#[],argTypes:=#[]})
  (v:Value) (wt:Int) (hx:a.eval x=v) (hp:zb6 v wt) (hn:zkg nm) (h:∀w',Below w.heap.size w w'->K (a.put o.dst (.int .i64 wt)) w'):o.wp Tryz.prog a w K Q:=by
 obtain⟨f,y,h1,h2⟩:=hp nm hn;unfold Oper.wp execOp;simp only[ho,resolve,invoke,Sem.run_bind,Sem.run_pure,Result.andThen_ok,List.map_toArray,List.map_nil,hx];have e0:(#[v]++([]:List Value).toArray)[0]?=some v:=by simp
 simp only[e0];have e1:(#[v]++([]:List Value).toArray).extract 1 (#[v]++([]:List Value).toArray).size=#[]:=by simp
 rw[e1,h1,Oper.upon_enter];refine(h2 w).mono ?_;rintro e w' ⟨rfl,hb⟩;exact h w' hb
theorem zbs{rest:List Oper}(w:World)(hgd:o.guard=none)(x:Operand)(nm:String)(ho:o.op=.call {callee:=.invoke x nm,args:=#[],argTypes:=#[]})
  (v:Value) (wt:Int) (hx:a.eval x=v) (hp:zb6 v wt) (hn:zkg nm) (h:∀w',Below w.heap.size w w'->wpList Tryz.prog ops Q rest (a.put o.dst (.int .i64 wt)) w'):wpList Tryz.prog ops Q (o::rest) a w:=
 wpList_plain hgd fun _ hK=>ziT w x nm ho v wt hx hp hn fun w' hb=>hK _ _ (h w' hb)
theorem zcU{E:Prop}(w:World)(hgd:o.guard=none)(x:Operand)(nm:String)(ho:o.op=.call {callee:=.invoke x nm,args:=#[],argTypes:=#[]})
  (v:Value) (wt:Int) (hx:a.eval x=v) (hp:zb6 v wt) (hn:zkg nm) (h:∀w',Below w.heap.size w w'->K (a.put o.dst (.int .i64 wt)) w'):
  if Region.wanted o (yielded ops a.tmps)=true then Oper.wp Tryz.prog o a w K Q else E:=by
 have hw:Region.wanted o (yielded ops a.tmps)=true:=by simp[Region.wanted,hgd]
 rw[zst hw];exact ziT w x nm ho v wt hx hp hn h
theorem zg1(x:Value):zb6 (.iface 201 (.agg #[x])) 1:=by
 intro nm hN;refine⟨_,_,hN.1 _,fun w=>?_⟩;clear hN
 go_enter Tryz.func164,Tryz.ntmps164
 go_wp2;go_ret;exact⟨rfl,(Below.refl _ _).alloc (zsa _) _⟩
theorem zgY(v:Value)(g wt:Int)(h:zb6 v wt):zb6 (.iface 124 (.agg #[v,.int .i64 g])) wt:=by
 intro nm hN;refine⟨_,_,hN.2.2.2.2 _,fun w=>?_⟩;clear hN
 go_enter Tryz.func152,Tryz.ntmps152
 go_wp2_with (refine zbs _ rfl _ _ rfl _ _ rfl h ⟨fun _ _=>by kernel_rfl,fun _ _=>by kernel_rfl,fun _ _=>by kernel_rfl,fun _ _=>by kernel_rfl,fun _ _=>by kernel_rfl⟩ ?_;intro w2 hb2)
 go_ret
 exact⟨rfl,zaa ((Below.refl _ _).alloc (zsa _) _) (by simp) hb2⟩
theorem zoJ{w wx w2:World}{g:Nat}{l r:Value}(hb:Below wx.heap.size wx w2)(h:Below g w wx/\g<wx.heap.size/\wx.cell? ⟨g,0,none⟩=some l/\wx.cell? ⟨g,1,none⟩=some r):
  Below g w w2/\g<w2.heap.size/\w2.cell? ⟨g,0,none⟩=some l/\w2.cell? ⟨g,1,none⟩=some r:=
 ⟨h.1.trans (hb.mono (by omega)),zsc h.2.1 hb.size,(hb.cell h.2.1).trans h.2.2.1,(hb.cell h.2.1).trans h.2.2.2⟩
theorem zg0(l r:Value)(a b:Int)(hl:zb6 l a)(hr:zb6 r b)(ha0:0<=a)(ha1:a<=2001)(hb0:0<=b)(hb1:b<=2001):zb6 (.iface 116 (.agg #[l,r])) (capW (a+b)):=by
 intro nm hN;refine⟨_,_,hN.2.1 _,fun w=>?_⟩;clear hN;have hwr:IntKind.i64.wrap (a+b)=a+b:=by rw[IntKind.wrap_i64];omega
 have hw0:Below w.heap.size w (w.alloc (.cells #[l,r] 116)).drew:=((Below.refl _ _).alloc (zsa _) _).drew
 go_enter Tryz.func149,Tryz.ntmps149
 go_wp2
 go_region_held3 (fun w'=>Below w.heap.size w w'/\w.heap.size<w'.heap.size/\w'.cell? ⟨w.heap.size,0,none⟩=some l/\w'.cell? ⟨w.heap.size,1,none⟩=some r) ((first|go_keep|exact zoJ hb2 (by assumption)|exact zoJ hb3 (by assumption))) ((first|(refine zcU _ rfl (.tmp 4) _ (by rfl) _ _ (by rfl) hl ⟨fun _ _=>by kernel_rfl,fun _ _=>by kernel_rfl,fun _ _=>by kernel_rfl,fun _ _=>by kernel_rfl,fun _ _=>by kernel_rfl⟩ ?_;intro w2 hb2)|(refine zcU _ rfl (.tmp 7) _ (by rfl) _ _ (by rfl) hr ⟨fun _ _=>by kernel_rfl,fun _ _=>by kernel_rfl,fun _ _=>by kernel_rfl,fun _ _=>by kernel_rfl,fun _ _=>by kernel_rfl⟩ ?_;intro w3 hb3)|(go_at_call 59;refine(zbA _ _).mono ?_;rintro e w4 ⟨rfl,rfl⟩)))
 all_goals
  have hfin:=‹Below w.heap.size w _/\_›;go_wp2;go_ret;exact⟨rfl,hfin.1⟩
theorem zgX(l r:Value)(a b:Int)(hl:zb6 l a)(hr:zb6 r b)(ha0:0<=a)(ha1:a<=2001)(hb0:0<=b)(hb1:b<=2001):zb6 (.iface 118 (.agg #[l,r])) (capW (a+b)):=by
 intro nm hN;refine⟨_,_,hN.2.2.1 _,fun w=>?_⟩;clear hN;have hwr:IntKind.i64.wrap (a+b)=a+b:=by rw[IntKind.wrap_i64];omega
 have hw0:Below w.heap.size w (w.alloc (.cells #[l,r] 118)).drew:=((Below.refl _ _).alloc (zsa _) _).drew
 go_enter Tryz.func150,Tryz.ntmps150
 go_wp2
 go_region_held3 (fun w'=>Below w.heap.size w w'/\w.heap.size<w'.heap.size/\w'.cell? ⟨w.heap.size,0,none⟩=some l/\w'.cell? ⟨w.heap.size,1,none⟩=some r) ((first|go_keep|exact zoJ hb2 (by assumption)|exact zoJ hb3 (by assumption))) ((first|(refine zcU _ rfl (.tmp 4) _ (by rfl) _ _ (by rfl) hl ⟨fun _ _=>by kernel_rfl,fun _ _=>by kernel_rfl,fun _ _=>by kernel_rfl,fun _ _=>by kernel_rfl,fun _ _=>by kernel_rfl⟩ ?_;intro w2 hb2)|(refine zcU _ rfl (.tmp 7) _ (by rfl) _ _ (by rfl) hr ⟨fun _ _=>by kernel_rfl,fun _ _=>by kernel_rfl,fun _ _=>by kernel_rfl,fun _ _=>by kernel_rfl,fun _ _=>by kernel_rfl⟩ ?_;intro w3 hb3)|(go_at_call 59;refine(zbA _ _).mono ?_;rintro e w4 ⟨rfl,rfl⟩)))
 all_goals
  have hfin:=‹Below w.heap.size w _/\_›;go_wp2;go_ret;exact⟨rfl,hfin.1⟩
theorem zcg{mn mx:Int}(h:zaD mn mx=true):1<=zaL mn mx/\zaL mn mx<=256:=by
 simp[zaD] at h;unfold zaL;split
 ·omega
 ·split<;>omega
theorem zgZ(l:Value)(a mn mx:Int)(hl:zb6 l a)(ha0:0<=a)(ha1:a<=2001)(hbd:zaD mn mx=true):zb6 (.iface 121 (.agg #[l,.int .i64 mn,.int .i64 mx])) (capW (a*zaL mn mx)):=by
 intro nm hN;refine⟨_,_,hN.2.2.2.1 _,fun w=>?_⟩;clear hN;have hcb:=zcg hbd;have hm0:0<=a*zaL mn mx:=Int.mul_nonneg ha0 (by omega);have hm1:a*zaL mn mx<=2001*256:=Int.mul_le_mul ha1 hcb.2 (by omega) (by omega);simp[zaD] at hbd
 by_cases hx:mx=-1
 ·subst hx;have hcc:zaL mn (-1)=mn+1:=by simp[zaL]
  rw[hcc] at hm0 hm1 ⊢;clear hcc hcb;have hwr:IntKind.i64.wrap (a*(mn+1))=a*(mn+1):=by rw[IntKind.wrap_i64];omega
  obtain⟨hb1,hb2'⟩:=hbd
  go_enter Tryz.func151,Tryz.ntmps151
  go_wp2_with (first|(refine zbs _ rfl (.tmp 14) _ rfl _ _ rfl hl ⟨fun _ _=>by kernel_rfl,fun _ _=>by kernel_rfl,fun _ _=>by kernel_rfl,fun _ _=>by kernel_rfl,fun _ _=>by kernel_rfl⟩ ?_;intro w2 hb2)|(go_at_call 59;refine(zbA _ _).mono ?_;rintro e w4 ⟨rfl,rfl⟩))
  go_ret
  exact⟨rfl,zaa ((Below.refl _ _).alloc (zsa _) _) (by simp) hb2⟩
 ·have hx2:(mx == -1)=false:=zsk.2 hx;obtain⟨hb1,hb2'⟩:=hbd
  by_cases h1:1<=mx
  ·have hcc:zaL mn mx=mx:=by simp[zaL,hx];omega
   rw[hcc] at hm0 hm1 ⊢;have hwr:IntKind.i64.wrap (a*mx)=a*mx:=by rw[IntKind.wrap_i64];omega
   clear hcc hcb hx hb2'
   go_enter Tryz.func151,Tryz.ntmps151
   go_wp2_with (first|(refine zbs _ rfl (.tmp 14) _ rfl _ _ rfl hl ⟨fun _ _=>by kernel_rfl,fun _ _=>by kernel_rfl,fun _ _=>by kernel_rfl,fun _ _=>by kernel_rfl,fun _ _=>by kernel_rfl⟩ ?_;intro w2 hb2)|(go_at_call 59;refine(zbA _ _).mono ?_;rintro e w4 ⟨rfl,rfl⟩))
   go_ret
   exact⟨rfl,zaa ((Below.refl _ _).alloc (zsa _) _) (by simp) hb2⟩
  ·have hcc:zaL mn mx=1:=by simp[zaL,hx];omega
   rw[hcc] at hm0 hm1 ⊢;rw[Int.mul_one];have hwr:IntKind.i64.wrap a=a:=by rw[IntKind.wrap_i64];omega
   clear hcc hcb hx hb2' hm0 hm1
   go_enter Tryz.func151,Tryz.ntmps151
   go_wp2_with (first|(refine zbs _ rfl (.tmp 14) _ rfl _ _ rfl hl ⟨fun _ _=>by kernel_rfl,fun _ _=>by kernel_rfl,fun _ _=>by kernel_rfl,fun _ _=>by kernel_rfl,fun _ _=>by kernel_rfl⟩ ?_;intro w2 hb2)|(go_at_call 59;refine(zbA _ _).mono ?_;rintro e w4 ⟨rfl,rfl⟩))
   go_ret
   exact⟨rfl,zaa ((Below.refl _ _).alloc (zsa _) _) (by simp) hb2⟩
end Go.Proofs.YthdljcdbfmhleaaGreatDoor
