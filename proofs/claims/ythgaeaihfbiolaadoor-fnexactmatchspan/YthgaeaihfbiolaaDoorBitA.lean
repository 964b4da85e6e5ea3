import Derived.Test.YthgaeaihfbiolaaDoorGen
import Derived.Deep.QuietTactic
import Derived.Deep.RegionHeld3
import Derived.Deep.DrawnRows
namespace Go.Proofs.YthgaeaihfbiolaaDoor
open Go.RowKit
attribute [local go_sem ↓] Go.wp_at_zero Go.wp_at_succ

theorem grown_put (W : World) (b j : Nat) (v : Value) : W.grownBy (W.setCell ⟨b, j, none⟩ v) (some b) :=
  ⟨rfl, rfl, rfl, by simp, fun k _ hk => Below.heap_setCell W _ _ k (fun e => hk (by rw [e]))⟩
theorem grown_put_drew (W : World) (b j : Nat) (v : Value) : W.grownBy (W.setCell ⟨b, j, none⟩ v).drew (some b) := by
  have h := grown_put W b j v
  exact ⟨h.os, h.tape, h.output, h.size, h.block⟩
/- THE SLOTS TAKEN, a bit each. -/
def wdRow (n : Nat) (T : Nat → Nat) : Array Value := ((List.range n).map fun i => Value.int .u64 (T i : Int)).toArray
theorem wdRow_get (n : Nat) (T : Nat → Nat) {i : Nat} (h : i < n) : (wdRow n T)[i]? = some (.int .u64 (T i : Int)) := by
  simp [wdRow, h]
def bitAt (T : Nat → Nat) (s : Nat) : Bool := (T (s / 64)).testBit (s % 64)
theorem or_u64 (x y : Nat) (hx : x < 18446744073709551616) (hy : y < 18446744073709551616) : bits BinOp.or IntKind.u64 (x : Int) (y : Int) = ((x ||| y : Nat) : Int) := by
  have h1 : (BitVec.ofInt 64 (x : Int) ||| BitVec.ofInt 64 (y : Int)).toNat = x ||| y := by
    rw [BitVec.ofInt_natCast, BitVec.ofInt_natCast, BitVec.toNat_or, BitVec.toNat_ofNat, BitVec.toNat_ofNat, Nat.mod_eq_of_lt (by omega), Nat.mod_eq_of_lt (by omega)]
  have h2 : x ||| y < 18446744073709551616 := Nat.or_lt_two_pow (n := 64) hx hy
  show IntKind.u64.wrap ((BitVec.ofInt 64 (x : Int) ||| BitVec.ofInt 64 (y : Int)).toNat : Int) = _
  rw [h1]
  simp [IntKind.wrap, IntKind.bits, IntKind.signed]
  omega
theorem wrap_u64 (x : Nat) : IntKind.u64.wrap (x : Int) = ((x % 18446744073709551616 : Nat) : Int) := by
  simp [IntKind.wrap, IntKind.bits, IntKind.signed]
theorem wdRow_set (n : Nat) (T : Nat → Nat) (i x : Nat) : (wdRow n T).setIfInBounds i (.int .u64 (x : Int)) = wdRow n (fun j => if j = i then x else T j) := by
  apply Array.ext'
  unfold wdRow
  simp only [List.setIfInBounds_toArray]
  apply List.ext_getElem
  · simp
  · intro j h1 h2
    simp only [List.getElem_set, List.getElem_map, List.getElem_range]
    by_cases e : i = j
    · subst e; simp
    · rw [if_neg e, if_neg (fun h => e h.symm)]
/-- One slot more. -/
def addT (T : Nat → Nat) (p : Nat) : Nat → Nat := fun j => if j = p / 64 then T (p / 64) ||| 2 ^ (p % 64) else T j
theorem addT_lt (T : Nat → Nat) (hT : ∀ i, T i < 18446744073709551616) (p : Nat) : ∀ i, addT T p i < 18446744073709551616 := fun i => by
  unfold addT
  split
  · exact Nat.or_lt_two_pow (n := 64) (hT _) (Nat.pow_lt_pow_right (by omega) (by omega))
  · exact hT i
theorem addT_bit (T : Nat → Nat) (p s : Nat) : bitAt (addT T p) s = (bitAt T s || decide (s = p)) := by
  unfold bitAt addT
  by_cases h : s / 64 = p / 64
  · rw [if_pos h, Nat.testBit_or, Nat.testBit_two_pow, h]
    congr 1
    by_cases e : s = p
    · subst e; simp
    · have : ¬p % 64 = s % 64 := by omega
      simp [this, e]
  · rw [if_neg h]
    have : ¬s = p := fun e => h (by rw [e])
    simp [this]
/- THE LOWEST BIT. -/
theorem odd_part : ∀ (n x : Nat), x ≤ n → 0 < x → ∃ k t, x = 2 ^ k * (2 * t + 1)
  | 0, x, h, h0 => by omega
  | n + 1, x, h, h0 => by
    by_cases e : x % 2 = 1
    · exact ⟨0, x / 2, by omega⟩
    · obtain ⟨k, t, hk⟩ := odd_part n (x / 2) (by omega) (by omega)
      refine ⟨k + 1, t, ?_⟩
      rw [Nat.pow_succ, Nat.mul_assoc, Nat.mul_comm 2, ← Nat.mul_assoc, ← hk]
      omega
structure Low (x k : Nat) : Prop where
  bit : x.testBit k = true
  low : ∀ j, j < k → x.testBit j = false
theorem low_of (k t : Nat) : Low (2 ^ k * (2 * t + 1)) k := by
  constructor
  · rw [Nat.testBit_two_pow_mul]
    simp
  · intro j hj
    rw [Nat.testBit_two_pow_mul]
    simp
    omega
theorem low_and {x k t : Nat} (hx : x = 2 ^ k * (2 * t + 1)) (hl : x < 2 ^ 64) : x &&& (2 ^ 64 - x) = 2 ^ k := by
  have hp : 0 < 2 ^ k := Nat.two_pow_pos k
  have h0 : 0 < x := by rw [hx]; exact Nat.mul_pos hp (by omega)
  have e1 : 2 ^ 64 - x = 2 ^ 64 - ((x - 1) + 1) := by omega
  have e2 : x - 1 = 2 ^ k * (2 * t) + (2 ^ k - 1) := by
    rw [hx, Nat.mul_add, Nat.mul_one]
    omega
  apply Nat.eq_of_testBit_eq
  intro i
  rw [Nat.testBit_and, e1, Nat.testBit_two_pow_sub_succ (by omega), e2, Nat.testBit_two_pow_mul_add _ (by omega), hx, Nat.testBit_two_pow_mul, Nat.testBit_two_pow]
  have hk : k < 64 := by
    rcases Nat.lt_or_ge k 64 with h | h
    · exact h
    · have : 2 ^ 64 ≤ 2 ^ k := Nat.pow_le_pow_right (by omega) h
      have : 2 ^ k ≤ x := by rw [hx]; exact Nat.le_mul_of_pos_right _ (by omega)
      omega
  by_cases h1 : i < k
  · have : ¬k ≤ i := by omega
    have h2 : ¬k = i := by omega
    simp [this, h2]
  · by_cases h2 : i = k
    · subst h2
      simp [hk]
    · have h3 : k ≤ i := by omega
      have h4 : ¬k = i := by omega
      have h5 : ¬i - k = 0 := by omega
      obtain ⟨m, hm⟩ : ∃ m, i - k = m + 1 := ⟨i - k - 1, by omega⟩
      have a1 : (2 * t + 1).testBit (m + 1) = t.testBit m := by rw [Nat.testBit_succ]; congr 1; omega
      have a2 : (2 * t).testBit (m + 1) = t.testBit m := by rw [Nat.testBit_succ]; congr 1; omega
      rw [if_neg h1, hm, a1, a2]
      cases t.testBit m <;> simp [h4]
def tabB64 : List Nat := [0, 1, 56, 2, 57, 49, 28, 3, 61, 58, 42, 50, 38, 29, 17, 4, 62, 47, 59, 36, 45, 43, 51, 22, 53, 39, 33, 30, 24, 18, 12, 5, 63, 55, 48, 27, 60, 41, 37, 16, 46, 35, 44, 21, 52, 32, 23, 11, 54, 26, 40, 15, 34, 20, 31, 10, 25, 14, 19, 9, 13, 8, 7, 6]
theorem bruijn : ∀ k, k < 64 → (2 ^ k * 285870213051353865 % 18446744073709551616) / 2 ^ 58 < 64 ∧ tabB64.getD ((2 ^ k * 285870213051353865 % 18446744073709551616) / 2 ^ 58) 0 = k := by decide
/-- The table of the lowest bits, as it is laid. -/
def Bruijn (w : World) : Prop := ∀ i, i < 64 → w.cell? ⟨0, i, none⟩ = some (.int .u8 (tabB64.getD i 0 : Int))
theorem and_u64 (x y : Nat) (hx : x < 18446744073709551616) (hy : y < 18446744073709551616) : bits BinOp.and IntKind.u64 (x : Int) (y : Int) = ((x &&& y : Nat) : Int) := by
  have h1 : (BitVec.ofInt 64 (x : Int) &&& BitVec.ofInt 64 (y : Int)).toNat = x &&& y := by
    rw [BitVec.ofInt_natCast, BitVec.ofInt_natCast, BitVec.toNat_and, BitVec.toNat_ofNat, BitVec.toNat_ofNat, Nat.mod_eq_of_lt (by omega), Nat.mod_eq_of_lt (by omega)]
  have h2 : x &&& y ≤ x := Nat.and_le_left
  show IntKind.u64.wrap ((BitVec.ofInt 64 (x : Int) &&& BitVec.ofInt 64 (y : Int)).toNat : Int) = _
  rw [h1]
  simp [IntKind.wrap, IntKind.bits, IntKind.signed]
  omega
set_option maxRecDepth 100000 in
set_option maxHeartbeats 1000000 in
theorem tz_ok (x k t : Nat) (w : World) (hx : Hid (x = 2 ^ k * (2 * t + 1))) (hl : x < 18446744073709551616) (h0 : 0 < x) (hk : k < 64) (hB : Hid (Bruijn w)) :
    Calls Tryd.prog 67 #[.int .u64 x] w fun e w' => e = .returned (.int .i64 k) ∧ w' = w := by
  have b0 : ((x : Int) == 0) = false := by simp; omega
  have hn : IntKind.u64.wrap (-(x : Int)) = ((18446744073709551616 - x : Nat) : Int) := by
    simp [IntKind.wrap, IntKind.bits, IntKind.signed]
    omega
  have ha : bits BinOp.and IntKind.u64 (x : Int) (IntKind.u64.wrap (-(x : Int))) = ((2 ^ k : Nat) : Int) := by
    rw [hn, and_u64 _ _ hl (by omega)]
    have h := low_and hx.out (show x < 2 ^ 64 by omega)
    rw [show (2 : Nat) ^ 64 = 18446744073709551616 by decide] at h
    rw [h]
  obtain ⟨hi, ht⟩ := bruijn k hk
  have hE : IntKind.u64.wrap (bits BinOp.and IntKind.u64 (x : Int) (IntKind.u64.wrap (-(x : Int))) * 285870213051353865) / 288230376151711744 = (((2 ^ k * 285870213051353865 % 18446744073709551616) / 2 ^ 58 : Nat) : Int) := by
    rw [ha, show ((2 ^ k : Nat) : Int) * 285870213051353865 = ((2 ^ k * 285870213051353865 : Nat) : Int) by simp, wrap_u64]
    generalize 2 ^ k * 285870213051353865 % 18446744073709551616 = y
    omega
  have c0 : w.cell? ⟨0, (IntKind.u64.wrap (bits BinOp.and IntKind.u64 (x : Int) (IntKind.u64.wrap (-(x : Int))) * 285870213051353865) / 288230376151711744).toNat, none⟩ = some (.int .u8 (k : Int)) := by rw [hE, Int.toNat_natCast, hB.out _ hi, ht]
  have q0 : 0 ≤ IntKind.u64.wrap (bits BinOp.and IntKind.u64 (x : Int) (IntKind.u64.wrap (-(x : Int))) * 285870213051353865) / 288230376151711744 := by rw [hE]; omega
  have q1 : IntKind.u64.wrap (bits BinOp.and IntKind.u64 (x : Int) (IntKind.u64.wrap (-(x : Int))) * 285870213051353865) / 288230376151711744 < 64 := by rw [hE]; omega
  clear hn ha ht hx hl h0 hB hi hE
  go_enter Tryd.func67, Tryd.ntmps67
  go_wp2
  go_ret
  exact ⟨rfl, rfl⟩
set_option maxRecDepth 100000 in
set_option maxHeartbeats 1000000 in
theorem addP_ok (nw g cap : Nat) (T : Nat → Nat) (p : Nat) (w : World) (hg : w.heap[g]? = some (.cells (wdRow nw T) 116 (0, 0))) (hp : p < 64 * nw) (hnw : nw ≤ 1000) (hT : Hid (∀ i, T i < 18446744073709551616)) :
    Calls Tryd.prog 55 #[.slice (some ⟨g, 0, none⟩) nw cap, .int .i64 p] w fun e w' => e = .returned (.tuple #[]) ∧ w'.heap[g]? = some (.cells (wdRow nw (addT T p)) 116 (0, 0)) ∧ w.grownBy w' (some g) := by
  have d0 : w.cell? ⟨g, p / 64, none⟩ = some (.int .u64 (T (p / 64) : Int)) := by rw [cell_of_row _ _ _ _ _ _ hg, wdRow_get _ _ (by omega)]
  have f0 := frozen_of_row _ _ (p / 64) _ _ hg
  have t0 := hT.out (p / 64)
  have e1 : (p : Int) / 64 = ((p / 64 : Nat) : Int) := by omega
  have e2 : (p : Int) % 64 = ((p % 64 : Nat) : Int) := by omega
  have l1 : p / 64 < nw := by omega
  have l2 : p % 64 < 64 := by omega
  have HN : Hid (((w.setCell ⟨g, p / 64, none⟩ (.int .u64 ((T (p / 64) ||| 2 ^ (p % 64) : Nat) : Int))).heap[g]? = some (.cells (wdRow nw (addT T p)) 116 (0, 0)))) := by
    have := heap_setCell_same w g (p / 64) _ _ (.int .u64 ((T (p / 64) ||| 2 ^ (p % 64) : Nat) : Int)) hg
    rw [wdRow_set] at this
    exact this
  generalize addT T p = T' at *
  generalize T (p / 64) = a at *
  generalize hq : p / 64 = q at *
  generalize hr : p % 64 = r at *
  have i1 : (q : Int) < nw := by omega
  have i3 : (0 : Int) ≤ (q : Int) := by omega
  have hv : bits BinOp.or IntKind.u64 (a : Int) (IntKind.u64.wrap (2 ^ r)) = ((a ||| 2 ^ r : Nat) : Int) := by
    have h2 : 2 ^ r < 18446744073709551616 := Nat.pow_lt_pow_right (a := 2) (n := 64) (by omega) l2
    rw [show (2 : Int) ^ r = ((2 ^ r : Nat) : Int) by simp, wrap_u64, Nat.mod_eq_of_lt h2, or_u64 _ _ t0 h2]
  rw [← hv] at HN
  clear hv hq hr hg hT t0
  go_enter Tryd.func55, Tryd.ntmps55
  go_wp2
  go_region
  all_goals
    go_wp2
    go_end0
    exact ⟨rfl, HN.out, grown_put_drew _ _ _ _⟩
end Go.Proofs.YthgaeaihfbiolaaDoor
