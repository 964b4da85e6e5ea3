import Derived.Test.YthgaeaihfbiolaaDoorGen
import Derived.Test.YthgaeaihfbiolaaDoorEq
import Derived.Deep.AppendLies
namespace Go.Proofs.YthgaeaihfbiolaaDoor
open Go.RowKit

def btw (c lo hi : Int) : Bool := decide (lo ≤ c ∧ c ≤ hi)

set_option maxHeartbeats 400000 in
theorem between_ok (c lo hi : Int) (w : World) : Calls Tryd.prog 46 #[.int .i64 c, .int .i64 lo, .int .i64 hi] w fun e w' => e = .returned (.bool (btw c lo hi)) ∧ w' = w := by
  by_cases h1 : lo ≤ c
  · by_cases h2 : c ≤ hi
    all_goals
      go_enter Tryd.func46, Tryd.ntmps46
      go_wp2
      go_ret
      exact ⟨ret_bool (by simp [btw]; omega), rfl⟩
  · go_enter Tryd.func46, Tryd.ntmps46
    go_wp2
    go_ret
    exact ⟨ret_bool (by simp [btw]; omega), rfl⟩

end Go.Proofs.YthgaeaihfbiolaaDoor
namespace Go.Proofs.YthgaeaihfbiolaaDoor
open Go.RowKit

/- THE PLAIN FUNCTIONS of both sides. -/
def arity (k : Int) : Nat := if k = 2 ∨ k = 3 then 2 else if k = 4 ∨ k = 5 then 1 else 0
def copies (mn mx : Int) : Int := if mx = -1 then mn + 1 else if mx < 1 then 1 else mx
def capW (n : Int) : Int := if n ≤ 2001 then n else 2001
def boundsB (mn mx : Int) : Bool := decide (0 ≤ mn ∧ mn ≤ 255) && decide (mx = -1 ∨ (mn ≤ mx ∧ mx ≤ 255))
def loose (mn mx : Int) : Bool := decide (mn = 0 ∧ (mx = 1 ∨ mx = -1))

theorem arity_le (k : Int) : arity k ≤ 2 := by unfold arity; split <;> (try split) <;> omega

set_option maxHeartbeats 400000 in
theorem arity_ok (k : Int) (w : World) : Calls Tryd.prog 60 #[.int .i64 k] w fun e w' => e = .returned (.int .i64 (arity k)) ∧ w' = w := by
  by_cases h2 : k = 2
  · subst h2; go_enter Tryd.func60, Tryd.ntmps60; go_wp2; go_ret; exact ⟨rfl, rfl⟩
  by_cases h3 : k = 3
  · subst h3; go_enter Tryd.func60, Tryd.ntmps60; go_wp2; go_ret; exact ⟨rfl, rfl⟩
  by_cases h4 : k = 4
  · subst h4; go_enter Tryd.func60, Tryd.ntmps60; go_wp2; go_ret; exact ⟨rfl, rfl⟩
  by_cases h5 : k = 5
  · subst h5; go_enter Tryd.func60, Tryd.ntmps60; go_wp2; go_ret; exact ⟨rfl, rfl⟩
  have e2 : (k == 2) = false := beq_eq_false_iff_ne.2 h2
  have e3 : (k == 3) = false := beq_eq_false_iff_ne.2 h3
  have e4 : (k == 4) = false := beq_eq_false_iff_ne.2 h4
  have e5 : (k == 5) = false := beq_eq_false_iff_ne.2 h5
  have ha : Hid (arity k = 0) := by show _ = _; simp [arity, h2, h3, h4, h5]
  clear h2 h3 h4 h5
  go_enter Tryd.func60, Tryd.ntmps60
  go_wp2
  go_ret
  exact ⟨ret_int (by rw [ha.out]; rfl), rfl⟩

set_option maxHeartbeats 400000 in
theorem operands_ok (k : Int) (w : World) : Calls Tryd.prog 64 #[.int .i64 k] w fun e w' => e = .returned (.int .i64 (arity k)) ∧ w' = w := by
  by_cases h2 : k = 2
  · subst h2; go_enter Tryd.func64, Tryd.ntmps64; go_wp2; go_ret; exact ⟨rfl, rfl⟩
  by_cases h3 : k = 3
  · subst h3; go_enter Tryd.func64, Tryd.ntmps64; go_wp2; go_ret; exact ⟨rfl, rfl⟩
  by_cases h4 : k = 4
  · subst h4; go_enter Tryd.func64, Tryd.ntmps64; go_wp2; go_ret; exact ⟨rfl, rfl⟩
  by_cases h5 : k = 5
  · subst h5; go_enter Tryd.func64, Tryd.ntmps64; go_wp2; go_ret; exact ⟨rfl, rfl⟩
  have e2 : (k == 2) = false := beq_eq_false_iff_ne.2 h2
  have e3 : (k == 3) = false := beq_eq_false_iff_ne.2 h3
  have e4 : (k == 4) = false := beq_eq_false_iff_ne.2 h4
  have e5 : (k == 5) = false := beq_eq_false_iff_ne.2 h5
  have ha : Hid (arity k = 0) := by show _ = _; simp [arity, h2, h3, h4, h5]
  clear h2 h3 h4 h5
  go_enter Tryd.func64, Tryd.ntmps64
  go_wp2
  go_ret
  exact ⟨ret_int (by rw [ha.out]; rfl), rfl⟩

set_option maxHeartbeats 400000 in
theorem copies_ok (k mn mx g : Int) (sv : Value) (w : World) (h0 : 0 ≤ mn) (h1 : mn ≤ 255) :
    Calls Tryd.prog 70 #[.agg #[.int .i64 k, sv, .int .i64 mn, .int .i64 mx, .int .i64 g]] w fun e w' => e = .returned (.int .i64 (copies mn mx)) ∧ Below w.heap.size w w' := by
  rcases (show mx = -1 ∨ (mx ≠ -1 ∧ mx < 1) ∨ (mx ≠ -1 ∧ 1 ≤ mx) by omega) with rfl | ⟨ha, hb⟩ | ⟨ha, hb⟩
  all_goals
    go_enter Tryd.func70, Tryd.ntmps70
    go_wp2
    go_ret
    refine ⟨ret_int ?_, (Below.refl _ _).alloc (Nat.le_refl _) _⟩
    simp [copies] <;> omega

set_option maxHeartbeats 400000 in
theorem capWeight_ok (n : Int) (w : World) : Calls Tryd.prog 34 #[.int .i64 n] w fun e w' => e = .returned (.int .i64 (capW n)) ∧ w' = w := by
  by_cases h : n ≤ 2001
  all_goals
    go_enter Tryd.func34, Tryd.ntmps34
    go_wp2
    go_ret
    refine ⟨ret_int ?_, rfl⟩
    simp [capW] <;> omega


set_option maxHeartbeats 400000 in
theorem boundsOK_ok (mn mx : Int) (w : World) : Calls Tryd.prog 73 #[.int .i64 mn, .int .i64 mx] w fun e w' => e = .returned (.bool (boundsB mn mx)) ∧ w' = w := by
  by_cases h0 : mn < 0
  · go_enter Tryd.func73, Tryd.ntmps73; go_wp2; go_ret; exact ⟨ret_bool (by simp [boundsB]; omega), rfl⟩
  by_cases h1 : 255 < mn
  · go_enter Tryd.func73, Tryd.ntmps73; go_wp2; go_ret; exact ⟨ret_bool (by simp [boundsB]; omega), rfl⟩
  by_cases h2 : mx = -1
  · subst h2; go_enter Tryd.func73, Tryd.ntmps73; go_wp2; go_ret; exact ⟨ret_bool (by simp [boundsB]; omega), rfl⟩
  have e2 : (mx == -1) = false := beq_eq_false_iff_ne.2 h2
  have H2 : Hid (mx ≠ -1) := h2
  clear h2
  by_cases h3 : mn ≤ mx
  · by_cases h4 : mx ≤ 255
    · go_enter Tryd.func73, Tryd.ntmps73; go_wp2; go_ret; exact ⟨ret_bool (by have := H2.out; simp [boundsB]; omega), rfl⟩
    · go_enter Tryd.func73, Tryd.ntmps73; go_wp2; go_ret; exact ⟨ret_bool (by have := H2.out; simp [boundsB]; omega), rfl⟩
  · go_enter Tryd.func73, Tryd.ntmps73; go_wp2; go_ret; exact ⟨ret_bool (by have := H2.out; simp [boundsB]; omega), rfl⟩

set_option maxHeartbeats 400000 in
theorem isLoose_ok (v : Value) (mn mx : Int) (w : World) : Calls Tryd.prog 78 #[.agg #[v, .int .i64 mn, .int .i64 mx]] w fun e w' => e = .returned (.bool (loose mn mx)) ∧ Below w.heap.size w w' := by
  by_cases h0 : mn = 0
  · subst h0
    by_cases h1 : mx = 1
    · subst h1; go_enter Tryd.func78, Tryd.ntmps78; go_wp2; go_ret; exact ⟨rfl, (Below.refl _ _).alloc (Nat.le_refl _) _⟩
    by_cases h2 : mx = -1
    · subst h2; go_enter Tryd.func78, Tryd.ntmps78; go_wp2; go_ret; exact ⟨rfl, (Below.refl _ _).alloc (Nat.le_refl _) _⟩
    have e1 : (mx == 1) = false := beq_eq_false_iff_ne.2 h1
    have e2 : (mx == -1) = false := beq_eq_false_iff_ne.2 h2
    have H : Hid (loose 0 mx = false) := by show _ = _; simp [loose, h1, h2]
    clear h1 h2
    go_enter Tryd.func78, Tryd.ntmps78; go_wp2; go_ret; exact ⟨ret_bool H.out.symm, (Below.refl _ _).alloc (Nat.le_refl _) _⟩
  · have e0 : (mn == 0) = false := beq_eq_false_iff_ne.2 h0
    have H : Hid (loose mn mx = false) := by show _ = _; simp [loose, h0]
    clear h0
    go_enter Tryd.func78, Tryd.ntmps78; go_wp2; go_ret; exact ⟨ret_bool H.out.symm, (Below.refl _ _).alloc (Nat.le_refl _) _⟩

end Go.Proofs.YthgaeaihfbiolaaDoor
