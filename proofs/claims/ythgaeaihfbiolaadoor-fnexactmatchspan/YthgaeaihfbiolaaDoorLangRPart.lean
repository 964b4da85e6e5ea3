import Derived.Test.YthgaeaihfbiolaaDoorLang
import Derived.Test.YthgaeaihfbiolaaDoorNodeUMarks
import Derived.Deep.RegionHeld3
import Derived.Deep.DrawnRows
namespace Go.Proofs.YthgaeaihfbiolaaDoor

/- READING ALONG POSITIONS, A BYTE AT A TIME (plain mathematics). -/
theorem run_one {tk : Nat → UInt8 → Prop} {fol : Nat → Nat → Prop} {first : Nat → Prop} {c : UInt8} {p : Nat} : Run tk fol first [c] p ↔ first p ∧ tk p c := by
  constructor
  · intro h
    generalize hu : [c] = u at h
    cases h with
    | one d _ a b => cases hu; exact ⟨a, b⟩
    | snoc v d q _ hr a b =>
      have hl := congrArg List.length hu
      simp at hl
      subst hl
      exact absurd rfl hr.ne
  · rintro ⟨a, b⟩; exact .one c p a b
theorem run_snoc {tk : Nat → UInt8 → Prop} {fol : Nat → Nat → Prop} {first : Nat → Prop} {u : Word} {c : UInt8} {q : Nat} (hu : u ≠ []) : Run tk fol first (u ++ [c]) q ↔ ∃ p, Run tk fol first u p ∧ fol p q ∧ tk q c := by
  constructor
  · intro h
    generalize hw : u ++ [c] = w at h
    cases h with
    | one d _ a b =>
      have hl := congrArg List.length hw
      simp at hl
      exact absurd hl hu
    | snoc v d p _ hr a b =>
      obtain ⟨e1, e2⟩ := List.append_inj' hw rfl
      cases e2
      subst e1
      exact ⟨p, hr, a, b⟩
  · rintro ⟨p, hr, a, b⟩; exact .snoc u c p q hr a b
/-- Where no position is left, none comes back. -/
theorem run_dead {tk : Nat → UInt8 → Prop} {fol : Nat → Nat → Prop} {first : Nat → Prop} {u : Word} (hu : u ≠ []) (h : ∀ p, ¬Run tk fol first u p) : ∀ (v : Word) (p : Nat), ¬Run tk fol first (u ++ v) p := by
  intro v
  induction v generalizing u with
  | nil => simpa using h
  | cons c v ih =>
    intro p hp
    have e : u ++ c :: v = (u ++ [c]) ++ v := by simp
    rw [e] at hp
    exact ih (u := u ++ [c]) (by simp) (fun q hq => by obtain ⟨r, hr, _⟩ := (run_snoc hu).1 hq; exact h r hr) p hp
theorem acc_some {tk : Nat → UInt8 → Prop} {fol : Nat → Nat → Prop} {e : Prop} {first last : Nat → Prop} {u : Word} (hu : u ≠ []) : Acc tk fol e first last u ↔ ∃ p, Run tk fol first u p ∧ last p :=
  ⟨fun h => h.elim (fun k => absurd k.1 hu) id, .inr⟩
theorem acc_nil {tk : Nat → UInt8 → Prop} {fol : Nat → Nat → Prop} {e : Prop} {first last : Nat → Prop} : Acc tk fol e first last [] ↔ e :=
  ⟨fun h => h.elim (fun k => k.2) (fun ⟨_, hr, _⟩ => absurd rfl hr.ne), fun h => .inl ⟨rfl, h⟩⟩
end Go.Proofs.YthgaeaihfbiolaaDoor
namespace Go.Proofs.YthgaeaihfbiolaaDoor
open Go.RowKit

/-- The method's name, known by where it leads. -/
def NameOK (nm : String) : Prop :=
  (∀ (x : Value) (w : World), (callMethod (.iface 85 x) nm #[]).run Tryd.prog w = .ok (.enter 97 #[x]) w) ∧
  (∀ (x : Value) (w : World), (callMethod (.iface 88 x) nm #[]).run Tryd.prog w = .ok (.enter 98 #[x]) w) ∧
  (∀ (x : Value) (w : World), (callMethod (.iface 89 x) nm #[]).run Tryd.prog w = .ok (.enter 99 #[x]) w) ∧
  (∀ (x : Value) (w : World), (callMethod (.iface 91 x) nm #[]).run Tryd.prog w = .ok (.enter 100 #[x]) w) ∧
  (∀ (x : Value) (w : World), (callMethod (.iface 94 x) nm #[]).run Tryd.prog w = .ok (.enter 101 #[x]) w)

/-- An interface value whose method 'weight' answers wt, in whatever world. -/
def Weighs (v : Value) (wt : Int) : Prop :=
  ∀ nm, NameOK nm → ∃ f x, (∀ w, (callMethod v nm #[]).run Tryd.prog w = .ok (.enter f #[x]) w) ∧ ∀ w, Calls Tryd.prog f #[x] w fun e w' => e = .returned (.int .i64 wt) ∧ Below w.heap.size w w'

theorem wp_weight {o : Oper} {a : Act} {K : Act → World → Prop} {Q : Exit → Act → World → Prop} (w : World) (x : Operand) (nm : String) (ho : o.op = .call { callee := .invoke x nm, args := #[], argTypes := #[] })
    (v : Value) (wt : Int) (hx : a.eval x = v) (hp : Weighs v wt) (hn : NameOK nm) (h : ∀ w', Below w.heap.size w w' → K (a.put o.dst (.int .i64 wt)) w') : o.wp Tryd.prog a w K Q := by
  obtain ⟨f, y, h1, h2⟩ := hp nm hn
  unfold Oper.wp execOp
  simp only [ho, resolve, invoke, Sem.run_bind, Sem.run_pure, Result.andThen_ok, List.map_toArray, List.map_nil, hx]
  have e0 : (#[v] ++ ([] : List Value).toArray)[0]? = some v := by simp
  simp only [e0]
  have e1 : (#[v] ++ ([] : List Value).toArray).extract 1 (#[v] ++ ([] : List Value).toArray).size = #[] := by simp
  rw [e1, h1, Oper.upon_enter]
  refine (h2 w).mono ?_
  rintro e w' ⟨rfl, hb⟩
  exact h w' hb

theorem wpList_weight {ops : Array Oper} {rest : List Oper} {o : Oper} {a : Act} {Q : Exit → Act → World → Prop} (w : World) (hgd : o.guard = none) (x : Operand) (nm : String) (ho : o.op = .call { callee := .invoke x nm, args := #[], argTypes := #[] })
    (v : Value) (wt : Int) (hx : a.eval x = v) (hp : Weighs v wt) (hn : NameOK nm) (h : ∀ w', Below w.heap.size w w' → wpList Tryd.prog ops Q rest (a.put o.dst (.int .i64 wt)) w') : wpList Tryd.prog ops Q (o :: rest) a w :=
  wpList_plain hgd fun _ hK => wp_weight w x nm ho v wt hx hp hn fun w' hb => hK _ _ (h w' hb)

theorem step_weight {ops : Array Oper} {o : Oper} {a : Act} {K : Act → World → Prop} {Q : Exit → Act → World → Prop} {E : Prop} (w : World) (hgd : o.guard = none) (x : Operand) (nm : String) (ho : o.op = .call { callee := .invoke x nm, args := #[], argTypes := #[] })
    (v : Value) (wt : Int) (hx : a.eval x = v) (hp : Weighs v wt) (hn : NameOK nm) (h : ∀ w', Below w.heap.size w w' → K (a.put o.dst (.int .i64 wt)) w') :
    if Region.wanted o (yielded ops a.tmps) = true then Oper.wp Tryd.prog o a w K Q else E := by
  have hw : Region.wanted o (yielded ops a.tmps) = true := by simp [Region.wanted, hgd]
  rw [if_pos hw]
  exact wp_weight w x nm ho v wt hx hp hn h

set_option maxHeartbeats 400000 in
theorem weighs_set (x : Value) : Weighs (.iface 85 (.agg #[x])) 1 := by
  intro nm hN
  refine ⟨_, _, hN.1 _, fun w => ?_⟩
  clear hN
  go_enter Tryd.func97, Tryd.ntmps97
  go_wp2
  go_ret
  exact ⟨rfl, (Below.refl _ _).alloc (Nat.le_refl _) _⟩

set_option maxHeartbeats 400000 in
theorem weighs_grp (v : Value) (g wt : Int) (h : Weighs v wt) : Weighs (.iface 94 (.agg #[v, .int .i64 g])) wt := by
  intro nm hN
  refine ⟨_, _, hN.2.2.2.2 _, fun w => ?_⟩
  clear hN
  go_enter Tryd.func101, Tryd.ntmps101
  go_wp2_with (refine wpList_weight _ rfl _ _ rfl _ _ rfl h ⟨fun _ _ => by kernel_rfl, fun _ _ => by kernel_rfl, fun _ _ => by kernel_rfl, fun _ _ => by kernel_rfl, fun _ _ => by kernel_rfl⟩ ?_; intro w2 hb2)
  go_ret
  exact ⟨rfl, below_step ((Below.refl _ _).alloc (Nat.le_refl _) _) (by simp) hb2⟩

attribute [local go_sem ↓] Go.wp_at_zero Go.wp_at_succ
theorem keep2 {w wx w2 : World} {g : Nat} {l r : Value} (hb : Below wx.heap.size wx w2) (h : Below g w wx ∧ g < wx.heap.size ∧ wx.cell? ⟨g, 0, none⟩ = some l ∧ wx.cell? ⟨g, 1, none⟩ = some r) :
    Below g w w2 ∧ g < w2.heap.size ∧ w2.cell? ⟨g, 0, none⟩ = some l ∧ w2.cell? ⟨g, 1, none⟩ = some r :=
  ⟨h.1.trans (hb.mono (by omega)), Nat.lt_of_lt_of_le h.2.1 hb.size, (hb.cell h.2.1).trans h.2.2.1, (hb.cell h.2.1).trans h.2.2.2⟩

set_option maxRecDepth 100000 in
set_option maxHeartbeats 1000000 in
theorem weighs_seq (l r : Value) (a b : Int) (hl : Weighs l a) (hr : Weighs r b) (ha0 : 0 ≤ a) (ha1 : a ≤ 2001) (hb0 : 0 ≤ b) (hb1 : b ≤ 2001) : Weighs (.iface 88 (.agg #[l, r])) (capW (a + b)) := by
  intro nm hN
  refine ⟨_, _, hN.2.1 _, fun w => ?_⟩
  clear hN
  have hwr : IntKind.i64.wrap (a + b) = a + b := by rw [IntKind.wrap_i64]; omega
  have hw0 : Below w.heap.size w (w.alloc (.cells #[l, r] 88)).drew := ((Below.refl _ _).alloc (Nat.le_refl _) _).drew
  go_enter Tryd.func98, Tryd.ntmps98
  go_wp2
  go_region_held3 (fun w' => Below w.heap.size w w' ∧ w.heap.size < w'.heap.size ∧ w'.cell? ⟨w.heap.size, 0, none⟩ = some l ∧ w'.cell? ⟨w.heap.size, 1, none⟩ = some r) ((first | go_keep | exact keep2 hb2 (by assumption) | exact keep2 hb3 (by assumption))) ((first | (refine step_weight _ rfl (.tmp 4) _ (by rfl) _ _ (by rfl) hl ⟨fun _ _ => by kernel_rfl, fun _ _ => by kernel_rfl, fun _ _ => by kernel_rfl, fun _ _ => by kernel_rfl, fun _ _ => by kernel_rfl⟩ ?_; intro w2 hb2) | (refine step_weight _ rfl (.tmp 7) _ (by rfl) _ _ (by rfl) hr ⟨fun _ _ => by kernel_rfl, fun _ _ => by kernel_rfl, fun _ _ => by kernel_rfl, fun _ _ => by kernel_rfl, fun _ _ => by kernel_rfl⟩ ?_; intro w3 hb3) | (go_at_call 34; refine (capWeight_ok _ _).mono ?_; rintro e w4 ⟨rfl, rfl⟩)))
  all_goals
    have hfin := ‹Below w.heap.size w _ ∧ _›
    go_wp2
    go_ret
    exact ⟨rfl, hfin.1⟩

set_option maxRecDepth 100000 in
set_option maxHeartbeats 1000000 in
theorem weighs_alt (l r : Value) (a b : Int) (hl : Weighs l a) (hr : Weighs r b) (ha0 : 0 ≤ a) (ha1 : a ≤ 2001) (hb0 : 0 ≤ b) (hb1 : b ≤ 2001) : Weighs (.iface 89 (.agg #[l, r])) (capW (a + b)) := by
  intro nm hN
  refine ⟨_, _, hN.2.2.1 _, fun w => ?_⟩
  clear hN
  have hwr : IntKind.i64.wrap (a + b) = a + b := by rw [IntKind.wrap_i64]; omega
  have hw0 : Below w.heap.size w (w.alloc (.cells #[l, r] 89)).drew := ((Below.refl _ _).alloc (Nat.le_refl _) _).drew
  go_enter Tryd.func99, Tryd.ntmps99
  go_wp2
  go_region_held3 (fun w' => Below w.heap.size w w' ∧ w.heap.size < w'.heap.size ∧ w'.cell? ⟨w.heap.size, 0, none⟩ = some l ∧ w'.cell? ⟨w.heap.size, 1, none⟩ = some r) ((first | go_keep | exact keep2 hb2 (by assumption) | exact keep2 hb3 (by assumption))) ((first | (refine step_weight _ rfl (.tmp 4) _ (by rfl) _ _ (by rfl) hl ⟨fun _ _ => by kernel_rfl, fun _ _ => by kernel_rfl, fun _ _ => by kernel_rfl, fun _ _ => by kernel_rfl, fun _ _ => by kernel_rfl⟩ ?_; intro w2 hb2) | (refine step_weight _ rfl (.tmp 7) _ (by rfl) _ _ (by rfl) hr ⟨fun _ _ => by kernel_rfl, fun _ _ => by kernel_rfl, fun _ _ => by kernel_rfl, fun _ _ => by kernel_rfl, fun _ _ => by kernel_rfl⟩ ?_; intro w3 hb3) | (go_at_call 34; refine (capWeight_ok _ _).mono ?_; rintro e w4 ⟨rfl, rfl⟩)))
  all_goals
    have hfin := ‹Below w.heap.size w _ ∧ _›
    go_wp2
    go_ret
    exact ⟨rfl, hfin.1⟩

theorem copies_bd {mn mx : Int} (h : boundsB mn mx = true) : 1 ≤ copies mn mx ∧ copies mn mx ≤ 256 := by
  simp [boundsB] at h
  unfold copies
  split
  · omega
  · split <;> omega

set_option maxRecDepth 100000 in
set_option maxHeartbeats 1000000 in
theorem weighs_rep (l : Value) (a mn mx : Int) (hl : Weighs l a) (ha0 : 0 ≤ a) (ha1 : a ≤ 2001) (hbd : boundsB mn mx = true) : Weighs (.iface 91 (.agg #[l, .int .i64 mn, .int .i64 mx])) (capW (a * copies mn mx)) := by
  intro nm hN
  refine ⟨_, _, hN.2.2.2.1 _, fun w => ?_⟩
  clear hN
  have hcb := copies_bd hbd
  have hm0 : 0 ≤ a * copies mn mx := Int.mul_nonneg ha0 (by omega)
  have hm1 : a * copies mn mx ≤ 2001 * 256 := Int.mul_le_mul ha1 hcb.2 (by omega) (by omega)
  simp [boundsB] at hbd
  by_cases hx : mx = -1
  · subst hx
    have hcc : copies mn (-1) = mn + 1 := by simp [copies]
    rw [hcc] at hm0 hm1 ⊢
    clear hcc hcb
    have hwr : IntKind.i64.wrap (a * (mn + 1)) = a * (mn + 1) := by rw [IntKind.wrap_i64]; omega
    obtain ⟨hb1, hb2'⟩ := hbd
    go_enter Tryd.func100, Tryd.ntmps100
    go_wp2_with (first | (refine wpList_weight _ rfl (.tmp 14) _ rfl _ _ rfl hl ⟨fun _ _ => by kernel_rfl, fun _ _ => by kernel_rfl, fun _ _ => by kernel_rfl, fun _ _ => by kernel_rfl, fun _ _ => by kernel_rfl⟩ ?_; intro w2 hb2) | (go_at_call 34; refine (capWeight_ok _ _).mono ?_; rintro e w4 ⟨rfl, rfl⟩))
    go_ret
    exact ⟨rfl, below_step ((Below.refl _ _).alloc (Nat.le_refl _) _) (by simp) hb2⟩
  · have hx2 : (mx == -1) = false := beq_eq_false_iff_ne.2 hx
    obtain ⟨hb1, hb2'⟩ := hbd
    by_cases h1 : 1 ≤ mx
    · have hcc : copies mn mx = mx := by simp [copies, hx]; omega
      rw [hcc] at hm0 hm1 ⊢
      have hwr : IntKind.i64.wrap (a * mx) = a * mx := by rw [IntKind.wrap_i64]; omega
      clear hcc hcb hx hb2'
      go_enter Tryd.func100, Tryd.ntmps100
      go_wp2_with (first | (refine wpList_weight _ rfl (.tmp 14) _ rfl _ _ rfl hl ⟨fun _ _ => by kernel_rfl, fun _ _ => by kernel_rfl, fun _ _ => by kernel_rfl, fun _ _ => by kernel_rfl, fun _ _ => by kernel_rfl⟩ ?_; intro w2 hb2) | (go_at_call 34; refine (capWeight_ok _ _).mono ?_; rintro e w4 ⟨rfl, rfl⟩))
      go_ret
      exact ⟨rfl, below_step ((Below.refl _ _).alloc (Nat.le_refl _) _) (by simp) hb2⟩
    · have hcc : copies mn mx = 1 := by simp [copies, hx]; omega
      rw [hcc] at hm0 hm1 ⊢
      rw [Int.mul_one]
      have hwr : IntKind.i64.wrap a = a := by rw [IntKind.wrap_i64]; omega
      clear hcc hcb hx hb2' hm0 hm1
      go_enter Tryd.func100, Tryd.ntmps100
      go_wp2_with (first | (refine wpList_weight _ rfl (.tmp 14) _ rfl _ _ rfl hl ⟨fun _ _ => by kernel_rfl, fun _ _ => by kernel_rfl, fun _ _ => by kernel_rfl, fun _ _ => by kernel_rfl, fun _ _ => by kernel_rfl⟩ ?_; intro w2 hb2) | (go_at_call 34; refine (capWeight_ok _ _).mono ?_; rintro e w4 ⟨rfl, rfl⟩))
      go_ret
      exact ⟨rfl, below_step ((Below.refl _ _).alloc (Nat.le_refl _) _) (by simp) hb2⟩
end Go.Proofs.YthgaeaihfbiolaaDoor
