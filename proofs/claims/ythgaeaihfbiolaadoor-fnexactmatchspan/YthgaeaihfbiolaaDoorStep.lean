import Derived.Test.YthgaeaihfbiolaaDoorGen
import Derived.Deep.RegionLaw
import Derived.Deep.Cut
import Derived.Deep.CutRange
namespace Go.Proofs.YthgaeaihfbiolaaDoor
open Go.RowKit

/-- A call of a Go function as one step of a region that draws its order. -/
theorem step_go {P : Program} {ops : Array Oper} {o : Oper} {a : Act} {w : World} {K : Act → World → Prop} {Q : Exit → Act → World → Prop} {E : Prop} (hgd : o.guard = none) (f : FuncId) (xs : Array Operand) (ats : Array TypeId)
    (ho : o.op = .call { callee := .value (.func f), args := xs, argTypes := ats }) (args : Array Value) (hargs : (#[] ++ xs.map a.eval ++ #[] : Array Value) = args) (v : Value) (R : World → Prop) (hen : (callFunc f args).run P w = .ok (.enter f args) w)
    (hc : Calls P f args w fun e w' => e = .returned v ∧ R w') (h : ∀ w', R w' → K (a.put o.dst v) w') :
    if Region.wanted o (yielded ops a.tmps) = true then Oper.wp P o a w K Q else E := by
  have hw : Region.wanted o (yielded ops a.tmps) = true := by simp [Region.wanted, hgd]
  rw [if_pos hw]
  obtain ⟨dst, op, type, pos, after, guard⟩ := o
  simp only at ho
  subst ho
  unfold Oper.wp
  rw [execOp_call_go, hargs]
  rw [hen, Oper.upon_enter]
  refine hc.mono ?_
  rintro e w' ⟨rfl, hR⟩
  exact h w' hR

theorem step_go2 {P : Program} {ops : Array Oper} {o : Oper} {a : Act} {w : World} {K : Act → World → Prop} {Q : Exit → Act → World → Prop} {E : Prop} (hgd : o.guard = none) (f : FuncId) (x y : Operand) (ats : Array TypeId)
    (ho : o.op = .call { callee := .value (.func f), args := #[x, y], argTypes := ats }) (u t : Value) (hu : a.eval x = u) (ht : a.eval y = t) (v : Value) (R : World → Prop) (hen : (callFunc f #[u, t]).run P w = .ok (.enter f #[u, t]) w)
    (hc : Calls P f #[u, t] w fun e w' => e = .returned v ∧ R w') (h : ∀ w', R w' → K (a.put o.dst v) w') :
    if Region.wanted o (yielded ops a.tmps) = true then Oper.wp P o a w K Q else E :=
  step_go hgd f #[x, y] ats ho #[u, t] (by simp [hu, ht]) v R hen hc h
/-- A call that ends in a panic. (The tactic wants one goal of what follows: it is left under a false hypothesis.) -/
theorem step_die2 {P : Program} {ops : Array Oper} {o : Oper} {a : Act} {w : World} {K : Act → World → Prop} {Q : Exit → Act → World → Prop} {E : Prop} (hgd : o.guard = none) (f : FuncId) (x y : Operand) (ats : Array TypeId)
    (ho : o.op = .call { callee := .value (.func f), args := #[x, y], argTypes := ats }) (u t : Value) (hu : a.eval x = u) (ht : a.eval y = t) (c : List PanicEntry) (R : World → Prop) (hen : (callFunc f #[u, t]).run P w = .ok (.enter f #[u, t]) w)
    (hc : Calls P f #[u, t] w fun e w' => e = .panicked c ∧ R w') (h : ∀ w', R w' → Q (.panic c) a w') (_ : Hid False → K a w) :
    if Region.wanted o (yielded ops a.tmps) = true then Oper.wp P o a w K Q else E := by
  have hw : Region.wanted o (yielded ops a.tmps) = true := by simp [Region.wanted, hgd]
  rw [if_pos hw]
  obtain ⟨dst, op, type, pos, after, guard⟩ := o
  simp only at ho
  subst ho
  unfold Oper.wp
  rw [execOp_call_go, show (#[] ++ #[x, y].map a.eval ++ #[] : Array Value) = #[u, t] by simp [hu, ht]]
  rw [hen, Oper.upon_enter]
  refine hc.mono ?_
  rintro e w' ⟨rfl, hR⟩
  exact h w' hR
end Go.Proofs.YthgaeaihfbiolaaDoor
