import Derived.Test.YtplhghhfdabccaaDoorPackB
namespace Go.Proofs.YtplhghhfdabccaaDoor
open Go.RowKit
attribute [local go_sem ↓] Go.wp_at_zero Go.wp_at_succ

theorem wdRow_set (n : Nat) (T : Nat → Nat) (i x : Nat) : (wdRow n T).setIfInBounds i (.int .u64 (x : Int)) = wdRow n (fun j => if j = i then x else T j) := by
  apply Array.ext'
  unfold wdRow
  simp only [List.setIfInBounds_toArray]
  apply List.ext_getElem
  · simp
  · intro j h1 h2
    simp only [List.getElem_set, List.getElem_map, List.getElem_range]
    by_cases e : i = j
    · subst e; simp
    · rw [if_neg e, if_neg (fun h => e h.symm)]
/-- One slot more. -/
def addT (T : Nat → Nat) (p : Nat) : Nat → Nat := fun j => if j = p / 64 then T (p / 64) ||| 2 ^ (p % 64) else T j
theorem addT_lt (T : Nat → Nat) (hT : ∀ i, T i < 18446744073709551616) (p : Nat) : ∀ i, addT T p i < 18446744073709551616 := fun i => by
  unfold addT
  split
  · exact Nat.or_lt_two_pow (n := 64) (hT _) (Nat.pow_lt_pow_right (by omega) (by omega))
  · exact hT i
theorem addT_bit (T : Nat → Nat) (p s : Nat) : bitAt (addT T p) s = (bitAt T s || decide (s = p)) := by
  unfold bitAt addT
  by_cases h : s / 64 = p / 64
  · rw [if_pos h, Nat.testBit_or, Nat.testBit_two_pow, h]
    congr 1
    by_cases e : s = p
    · subst e; simp
    · have : ¬p % 64 = s % 64 := by omega
      simp [this, e]
  · rw [if_neg h]
    have : ¬s = p := fun e => h (by rw [e])
    simp [this]
set_option maxRecDepth 100000 in
set_option maxHeartbeats 1000000 in
theorem add_ok (g cap : Nat) (T : Nat → Nat) (p : Nat) (w : World) (hg : w.heap[g]? = some (.cells (wdRow 943 T) 56 (0, 0))) (hp : p < 60288) (hT : Hid (∀ i, T i < 18446744073709551616)) :
    Calls Tryd.prog 32 #[.slice (some ⟨g, 0, none⟩) 943 cap, .int .i64 p] w fun e w' => e = .returned (.tuple #[]) ∧ w'.heap[g]? = some (.cells (wdRow 943 (addT T p)) 56 (0, 0)) ∧ (∀ k, k ≠ g → w'.heap[k]? = w.heap[k]?) ∧ w'.os = w.os ∧ w'.tape = w.tape ∧ w'.output = w.output ∧ w'.heap.size = w.heap.size := by
  have d0 : w.cell? ⟨g, p / 64, none⟩ = some (.int .u64 (T (p / 64) : Int)) := by rw [cell_of_row _ _ _ _ _ _ hg, wdRow_get _ _ (by omega)]
  have f0 := frozen_of_row _ _ (p / 64) _ _ hg
  have t0 := hT.out (p / 64)
  have e1 : (p : Int) / 64 = ((p / 64 : Nat) : Int) := by omega
  have e2 : (p : Int) % 64 = ((p % 64 : Nat) : Int) := by omega
  have l1 : p / 64 < 942 := by omega
  have l2 : p % 64 < 64 := by omega
  have HN : Hid (((w.setCell ⟨g, p / 64, none⟩ (.int .u64 ((T (p / 64) ||| 2 ^ (p % 64) : Nat) : Int))).heap[g]? = some (.cells (wdRow 943 (addT T p)) 56 (0, 0)))) := by
    have := heap_setCell_same w g (p / 64) _ _ (.int .u64 ((T (p / 64) ||| 2 ^ (p % 64) : Nat) : Int)) hg
    rw [wdRow_set] at this
    exact this
  generalize addT T p = T' at *
  generalize T (p / 64) = a at *
  generalize hq : p / 64 = q at *
  generalize hr : p % 64 = r at *
  have i1 : (q : Int) < 943 := by omega
  have i3 : (0 : Int) ≤ (q : Int) := by omega
  have hv : bits BinOp.or IntKind.u64 (a : Int) (IntKind.u64.wrap (2 ^ r)) = ((a ||| 2 ^ r : Nat) : Int) := by
    have h2 : 2 ^ r < 18446744073709551616 := Nat.pow_lt_pow_right (a := 2) (n := 64) (by omega) l2
    rw [show (2 : Int) ^ r = ((2 ^ r : Nat) : Int) by simp, wrap_u64, Nat.mod_eq_of_lt h2, or_u64 _ _ t0 h2]
  rw [← hv] at HN
  clear hv hq hr hg hT t0
  go_enter Tryd.func32, Tryd.ntmps32
  go_wp2
  go_region
  all_goals
    go_wp2
    go_end0
    exact ⟨rfl, HN.out, fun k hk => heap_setCell_other _ _ _ _ hk, rfl, rfl, rfl, by simp [World.setCell]⟩
end Go.Proofs.YtplhghhfdabccaaDoor
