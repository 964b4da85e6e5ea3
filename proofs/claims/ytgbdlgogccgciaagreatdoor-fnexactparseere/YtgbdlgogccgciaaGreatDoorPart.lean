import Derived.Test.YtgbdlgogccgciaaGreatDoorNodeSNodeTNodeUMarks
import Derived.Deep.RegionHeld3
import Derived.Deep.DrawnRows
namespace Go.Proofs.YtgbdlgogccgciaaGreatDoor
open Go.RowKit

/-- The method's name, known by where it leads. -/
def NameOK (nm : String) : Prop :=
  (∀ (x : Value) (w : World), (callMethod (.iface 169 x) nm #[]).run Tryz.prog w = .ok (.enter 139 #[x]) w) ∧
  (∀ (x : Value) (w : World), (callMethod (.iface 161 x) nm #[]).run Tryz.prog w = .ok (.enter 136 #[x]) w) ∧
  (∀ (x : Value) (w : World), (callMethod (.iface 162 x) nm #[]).run Tryz.prog w = .ok (.enter 137 #[x]) w) ∧
  (∀ (x : Value) (w : World), (callMethod (.iface 174 x) nm #[]).run Tryz.prog w = .ok (.enter 140 #[x]) w) ∧
  (∀ (x : Value) (w : World), (callMethod (.iface 165 x) nm #[]).run Tryz.prog w = .ok (.enter 138 #[x]) w)

/-- An interface value whose method 'weight' answers wt, in whatever world. -/
def Weighs (v : Value) (wt : Int) : Prop :=
  ∀ nm, NameOK nm → ∃ f x, (∀ w, (callMethod v nm #[]).run Tryz.prog w = .ok (.enter f #[x]) w) ∧ ∀ w, Calls Tryz.prog f #[x] w fun e w' => e = .returned (.int .i64 wt) ∧ Below w.heap.size w w'

theorem wp_weight {o : Oper} {a : Act} {K : Act → World → Prop} {Q : Exit → Act → World → Prop} (w : World) (x : Operand) (nm : String) (ho : o.op = .call { callee := .invoke x nm, args := #[], argTypes := #[] })
    (v : Value) (wt : Int) (hx : a.eval x = v) (hp : Weighs v wt) (hn : NameOK nm) (h : ∀ w', Below w.heap.size w w' → K (a.put o.dst (.int .i64 wt)) w') : o.wp Tryz.prog a w K Q := by
  obtain ⟨f, y, h1, h2⟩ := hp nm hn
  unfold Oper.wp execOp
  simp only [ho, resolve, invoke, Sem.run_bind, Sem.run_pure, Result.andThen_ok, List.map_toArray, List.map_nil, hx]
  have e0 : (#[v] ++ ([] : List Value).toArray)[0]? = some v := by simp
  simp only [e0]
  have e1 : (#[v] ++ ([] : List Value).toArray).extract 1 (#[v] ++ ([] : List Value).toArray).size = #[] := by simp
  rw [e1, h1, Oper.upon_enter]
  refine (h2 w).mono ?_
  rintro e w' ⟨rfl, hb⟩
  exact h w' hb

theorem wpList_weight {ops : Array Oper} {rest : List Oper} {o : Oper} {a : Act} {Q : Exit → Act → World → Prop} (w : World) (hgd : o.guard = none) (x : Operand) (nm : String) (ho : o.op = .call { callee := .invoke x nm, args := #[], argTypes := #[] })
    (v : Value) (wt : Int) (hx : a.eval x = v) (hp : Weighs v wt) (hn : NameOK nm) (h : ∀ w', Below w.heap.size w w' → wpList Tryz.prog ops Q rest (a.put o.dst (.int .i64 wt)) w') : wpList Tryz.prog ops Q (o :: rest) a w :=
  wpList_plain hgd fun _ hK => wp_weight w x nm ho v wt hx hp hn fun w' hb => hK _ _ (h w' hb)

theorem step_weight {ops : Array Oper} {o : Oper} {a : Act} {K : Act → World → Prop} {Q : Exit → Act → World → Prop} {E : Prop} (w : World) (hgd : o.guard = none) (x : Operand) (nm : String) (ho : o.op = .call { callee := .invoke x nm, args := #[], argTypes := #[] })
    (v : Value) (wt : Int) (hx : a.eval x = v) (hp : Weighs v wt) (hn : NameOK nm) (h : ∀ w', Below w.heap.size w w' → K (a.put o.dst (.int .i64 wt)) w') :
    if Region.wanted o (yielded ops a.tmps) = true then Oper.wp Tryz.prog o a w K Q else E := by
  have hw : Region.wanted o (yielded ops a.tmps) = true := by simp [Region.wanted, hgd]
  rw [if_pos hw]
  exact wp_weight w x nm ho v wt hx hp hn h

set_option maxHeartbeats 400000 in
theorem weighs_set (x : Value) : Weighs (.iface 169 (.agg #[x])) 1 := by
  intro nm hN
  refine ⟨_, _, hN.1 _, fun w => ?_⟩
  clear hN
  go_enter Tryz.func139, Tryz.ntmps139
  go_wp2
  go_ret
  exact ⟨rfl, (Below.refl _ _).alloc (Nat.le_refl _) _⟩

set_option maxHeartbeats 400000 in
theorem weighs_grp (v : Value) (g wt : Int) (h : Weighs v wt) : Weighs (.iface 165 (.agg #[v, .int .i64 g])) wt := by
  intro nm hN
  refine ⟨_, _, hN.2.2.2.2 _, fun w => ?_⟩
  clear hN
  go_enter Tryz.func138, Tryz.ntmps138
  go_wp2_with (refine wpList_weight _ rfl _ _ rfl _ _ rfl h ⟨fun _ _ => by kernel_rfl, fun _ _ => by kernel_rfl, fun _ _ => by kernel_rfl, fun _ _ => by kernel_rfl, fun _ _ => by kernel_rfl⟩ ?_; intro w2 hb2)
  go_ret
  exact ⟨rfl, below_step ((Below.refl _ _).alloc (Nat.le_refl _) _) (by simp) hb2⟩

attribute [local go_sem ↓] Go.wp_at_zero Go.wp_at_succ
theorem keep2 {w wx w2 : World} {g : Nat} {l r : Value} (hb : Below wx.heap.size wx w2) (h : Below g w wx ∧ g < wx.heap.size ∧ wx.cell? ⟨g, 0, none⟩ = some l ∧ wx.cell? ⟨g, 1, none⟩ = some r) :
    Below g w w2 ∧ g < w2.heap.size ∧ w2.cell? ⟨g, 0, none⟩ = some l ∧ w2.cell? ⟨g, 1, none⟩ = some r :=
  ⟨h.1.trans (hb.mono (by omega)), Nat.lt_of_lt_of_le h.2.1 hb.size, (hb.cell h.2.1).trans h.2.2.1, (hb.cell h.2.1).trans h.2.2.2⟩

set_option maxRecDepth 100000 in
set_option maxHeartbeats 1000000 in
theorem weighs_seq (l r : Value) (a b : Int) (hl : Weighs l a) (hr : Weighs r b) (ha0 : 0 ≤ a) (ha1 : a ≤ 2001) (hb0 : 0 ≤ b) (hb1 : b ≤ 2001) : Weighs (.iface 161 (.agg #[l, r])) (capW (a + b)) := by
  intro nm hN
  refine ⟨_, _, hN.2.1 _, fun w => ?_⟩
  clear hN
  have hwr : IntKind.i64.wrap (a + b) = a + b := by rw [IntKind.wrap_i64]; omega
  have hw0 : Below w.heap.size w (w.alloc (.cells #[l, r] 161)).drew := ((Below.refl _ _).alloc (Nat.le_refl _) _).drew
  go_enter Tryz.func136, Tryz.ntmps136
  go_wp2
  go_region_held3 (fun w' => Below w.heap.size w w' ∧ w.heap.size < w'.heap.size ∧ w'.cell? ⟨w.heap.size, 0, none⟩ = some l ∧ w'.cell? ⟨w.heap.size, 1, none⟩ = some r) ((first | go_keep | exact keep2 hb2 (by assumption) | exact keep2 hb3 (by assumption))) ((first | (refine step_weight _ rfl (.tmp 4) _ (by rfl) _ _ (by rfl) hl ⟨fun _ _ => by kernel_rfl, fun _ _ => by kernel_rfl, fun _ _ => by kernel_rfl, fun _ _ => by kernel_rfl, fun _ _ => by kernel_rfl⟩ ?_; intro w2 hb2) | (refine step_weight _ rfl (.tmp 7) _ (by rfl) _ _ (by rfl) hr ⟨fun _ _ => by kernel_rfl, fun _ _ => by kernel_rfl, fun _ _ => by kernel_rfl, fun _ _ => by kernel_rfl, fun _ _ => by kernel_rfl⟩ ?_; intro w3 hb3) | (go_at_call 56; refine (capWeight_ok _ _).mono ?_; rintro e w4 ⟨rfl, rfl⟩)))
  all_goals
    have hfin := ‹Below w.heap.size w _ ∧ _›
    go_wp2
    go_ret
    exact ⟨rfl, hfin.1⟩

set_option maxRecDepth 100000 in
set_option maxHeartbeats 1000000 in
theorem weighs_alt (l r : Value) (a b : Int) (hl : Weighs l a) (hr : Weighs r b) (ha0 : 0 ≤ a) (ha1 : a ≤ 2001) (hb0 : 0 ≤ b) (hb1 : b ≤ 2001) : Weighs (.iface 162 (.agg #[l, r])) (capW (a + b)) := by
  intro nm hN
  refine ⟨_, _, hN.2.2.1 _, fun w => ?_⟩
  clear hN
  have hwr : IntKind.i64.wrap (a + b) = a + b := by rw [IntKind.wrap_i64]; omega
  have hw0 : Below w.heap.size w (w.alloc (.cells #[l, r] 162)).drew := ((Below.refl _ _).alloc (Nat.le_refl _) _).drew
  go_enter Tryz.func137, Tryz.ntmps137
  go_wp2
  go_region_held3 (fun w' => Below w.heap.size w w' ∧ w.heap.size < w'.heap.size ∧ w'.cell? ⟨w.heap.size, 0, none⟩ = some l ∧ w'.cell? ⟨w.heap.size, 1, none⟩ = some r) ((first | go_keep | exact keep2 hb2 (by assumption) | exact keep2 hb3 (by assumption))) ((first | (refine step_weight _ rfl (.tmp 4) _ (by rfl) _ _ (by rfl) hl ⟨fun _ _ => by kernel_rfl, fun _ _ => by kernel_rfl, fun _ _ => by kernel_rfl, fun _ _ => by kernel_rfl, fun _ _ => by kernel_rfl⟩ ?_; intro w2 hb2) | (refine step_weight _ rfl (.tmp 7) _ (by rfl) _ _ (by rfl) hr ⟨fun _ _ => by kernel_rfl, fun _ _ => by kernel_rfl, fun _ _ => by kernel_rfl, fun _ _ => by kernel_rfl, fun _ _ => by kernel_rfl⟩ ?_; intro w3 hb3) | (go_at_call 56; refine (capWeight_ok _ _).mono ?_; rintro e w4 ⟨rfl, rfl⟩)))
  all_goals
    have hfin := ‹Below w.heap.size w _ ∧ _›
    go_wp2
    go_ret
    exact ⟨rfl, hfin.1⟩

theorem copies_bd {mn mx : Int} (h : boundsB mn mx = true) : 1 ≤ copies mn mx ∧ copies mn mx ≤ 256 := by
  simp [boundsB] at h
  unfold copies
  split
  · omega
  · split <;> omega

set_option maxRecDepth 100000 in
set_option maxHeartbeats 1000000 in
theorem weighs_rep (l : Value) (a mn mx : Int) (hl : Weighs l a) (ha0 : 0 ≤ a) (ha1 : a ≤ 2001) (hbd : boundsB mn mx = true) : Weighs (.iface 174 (.agg #[l, .int .i64 mn, .int .i64 mx])) (capW (a * copies mn mx)) := by
  intro nm hN
  refine ⟨_, _, hN.2.2.2.1 _, fun w => ?_⟩
  clear hN
  have hcb := copies_bd hbd
  have hm0 : 0 ≤ a * copies mn mx := Int.mul_nonneg ha0 (by omega)
  have hm1 : a * copies mn mx ≤ 2001 * 256 := Int.mul_le_mul ha1 hcb.2 (by omega) (by omega)
  simp [boundsB] at hbd
  by_cases hx : mx = -1
  · subst hx
    have hcc : copies mn (-1) = mn + 1 := by simp [copies]
    rw [hcc] at hm0 hm1 ⊢
    clear hcc hcb
    have hwr : IntKind.i64.wrap (a * (mn + 1)) = a * (mn + 1) := by rw [IntKind.wrap_i64]; omega
    obtain ⟨hb1, hb2'⟩ := hbd
    go_enter Tryz.func140, Tryz.ntmps140
    go_wp2_with (first | (refine wpList_weight _ rfl (.tmp 14) _ rfl _ _ rfl hl ⟨fun _ _ => by kernel_rfl, fun _ _ => by kernel_rfl, fun _ _ => by kernel_rfl, fun _ _ => by kernel_rfl, fun _ _ => by kernel_rfl⟩ ?_; intro w2 hb2) | (go_at_call 56; refine (capWeight_ok _ _).mono ?_; rintro e w4 ⟨rfl, rfl⟩))
    go_ret
    exact ⟨rfl, below_step ((Below.refl _ _).alloc (Nat.le_refl _) _) (by simp) hb2⟩
  · have hx2 : (mx == -1) = false := beq_eq_false_iff_ne.2 hx
    obtain ⟨hb1, hb2'⟩ := hbd
    by_cases h1 : 1 ≤ mx
    · have hcc : copies mn mx = mx := by simp [copies, hx]; omega
      rw [hcc] at hm0 hm1 ⊢
      have hwr : IntKind.i64.wrap (a * mx) = a * mx := by rw [IntKind.wrap_i64]; omega
      clear hcc hcb hx hb2'
      go_enter Tryz.func140, Tryz.ntmps140
      go_wp2_with (first | (refine wpList_weight _ rfl (.tmp 14) _ rfl _ _ rfl hl ⟨fun _ _ => by kernel_rfl, fun _ _ => by kernel_rfl, fun _ _ => by kernel_rfl, fun _ _ => by kernel_rfl, fun _ _ => by kernel_rfl⟩ ?_; intro w2 hb2) | (go_at_call 56; refine (capWeight_ok _ _).mono ?_; rintro e w4 ⟨rfl, rfl⟩))
      go_ret
      exact ⟨rfl, below_step ((Below.refl _ _).alloc (Nat.le_refl _) _) (by simp) hb2⟩
    · have hcc : copies mn mx = 1 := by simp [copies, hx]; omega
      rw [hcc] at hm0 hm1 ⊢
      rw [Int.mul_one]
      have hwr : IntKind.i64.wrap a = a := by rw [IntKind.wrap_i64]; omega
      clear hcc hcb hx hb2' hm0 hm1
      go_enter Tryz.func140, Tryz.ntmps140
      go_wp2_with (first | (refine wpList_weight _ rfl (.tmp 14) _ rfl _ _ rfl hl ⟨fun _ _ => by kernel_rfl, fun _ _ => by kernel_rfl, fun _ _ => by kernel_rfl, fun _ _ => by kernel_rfl, fun _ _ => by kernel_rfl⟩ ?_; intro w2 hb2) | (go_at_call 56; refine (capWeight_ok _ _).mono ?_; rintro e w4 ⟨rfl, rfl⟩))
      go_ret
      exact ⟨rfl, below_step ((Below.refl _ _).alloc (Nat.le_refl _) _) (by simp) hb2⟩
end Go.Proofs.YtgbdlgogccgciaaGreatDoor
