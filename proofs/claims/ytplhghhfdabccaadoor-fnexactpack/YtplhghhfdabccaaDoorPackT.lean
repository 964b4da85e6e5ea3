import Derived.Test.YtplhghhfdabccaaDoorPackB
namespace Go.Proofs.YtplhghhfdabccaaDoor
open Go.RowKit
attribute [local go_sem ↓] Go.wp_at_zero Go.wp_at_succ

/- THE LOWEST BIT. -/
theorem odd_part : ∀ (n x : Nat), x ≤ n → 0 < x → ∃ k t, x = 2 ^ k * (2 * t + 1)
  | 0, x, h, h0 => by omega
  | n + 1, x, h, h0 => by
    by_cases e : x % 2 = 1
    · exact ⟨0, x / 2, by omega⟩
    · obtain ⟨k, t, hk⟩ := odd_part n (x / 2) (by omega) (by omega)
      refine ⟨k + 1, t, ?_⟩
      rw [Nat.pow_succ, Nat.mul_assoc, Nat.mul_comm 2, ← Nat.mul_assoc, ← hk]
      omega
structure Low (x k : Nat) : Prop where
  bit : x.testBit k = true
  low : ∀ j, j < k → x.testBit j = false
theorem low_of (k t : Nat) : Low (2 ^ k * (2 * t + 1)) k := by
  constructor
  · rw [Nat.testBit_two_pow_mul]
    simp
  · intro j hj
    rw [Nat.testBit_two_pow_mul]
    simp
    omega
theorem low_and {x k t : Nat} (hx : x = 2 ^ k * (2 * t + 1)) (hl : x < 2 ^ 64) : x &&& (2 ^ 64 - x) = 2 ^ k := by
  have hp : 0 < 2 ^ k := Nat.two_pow_pos k
  have h0 : 0 < x := by rw [hx]; exact Nat.mul_pos hp (by omega)
  have e1 : 2 ^ 64 - x = 2 ^ 64 - ((x - 1) + 1) := by omega
  have e2 : x - 1 = 2 ^ k * (2 * t) + (2 ^ k - 1) := by
    rw [hx, Nat.mul_add, Nat.mul_one]
    omega
  apply Nat.eq_of_testBit_eq
  intro i
  rw [Nat.testBit_and, e1, Nat.testBit_two_pow_sub_succ (by omega), e2, Nat.testBit_two_pow_mul_add _ (by omega), hx, Nat.testBit_two_pow_mul, Nat.testBit_two_pow]
  have hk : k < 64 := by
    rcases Nat.lt_or_ge k 64 with h | h
    · exact h
    · have : 2 ^ 64 ≤ 2 ^ k := Nat.pow_le_pow_right (by omega) h
      have : 2 ^ k ≤ x := by rw [hx]; exact Nat.le_mul_of_pos_right _ (by omega)
      omega
  by_cases h1 : i < k
  · have : ¬k ≤ i := by omega
    have h2 : ¬k = i := by omega
    simp [this, h2]
  · by_cases h2 : i = k
    · subst h2
      simp [hk]
    · have h3 : k ≤ i := by omega
      have h4 : ¬k = i := by omega
      have h5 : ¬i - k = 0 := by omega
      obtain ⟨m, hm⟩ : ∃ m, i - k = m + 1 := ⟨i - k - 1, by omega⟩
      have a1 : (2 * t + 1).testBit (m + 1) = t.testBit m := by rw [Nat.testBit_succ]; congr 1; omega
      have a2 : (2 * t).testBit (m + 1) = t.testBit m := by rw [Nat.testBit_succ]; congr 1; omega
      rw [if_neg h1, hm, a1, a2]
      cases t.testBit m <;> simp [h4]
def tabB64 : List Nat := [0, 1, 56, 2, 57, 49, 28, 3, 61, 58, 42, 50, 38, 29, 17, 4, 62, 47, 59, 36, 45, 43, 51, 22, 53, 39, 33, 30, 24, 18, 12, 5, 63, 55, 48, 27, 60, 41, 37, 16, 46, 35, 44, 21, 52, 32, 23, 11, 54, 26, 40, 15, 34, 20, 31, 10, 25, 14, 19, 9, 13, 8, 7, 6]
theorem bruijn : ∀ k, k < 64 → (2 ^ k * 285870213051353865 % 18446744073709551616) / 2 ^ 58 < 64 ∧ tabB64.getD ((2 ^ k * 285870213051353865 % 18446744073709551616) / 2 ^ 58) 0 = k := by decide
/-- The table of the lowest bits, as it is laid. -/
def Bruijn (w : World) : Prop := ∀ i, i < 64 → w.cell? ⟨0, i, none⟩ = some (.int .u8 (tabB64.getD i 0 : Int))
theorem and_u64 (x y : Nat) (hx : x < 18446744073709551616) (hy : y < 18446744073709551616) : bits BinOp.and IntKind.u64 (x : Int) (y : Int) = ((x &&& y : Nat) : Int) := by
  have h1 : (BitVec.ofInt 64 (x : Int) &&& BitVec.ofInt 64 (y : Int)).toNat = x &&& y := by
    rw [BitVec.ofInt_natCast, BitVec.ofInt_natCast, BitVec.toNat_and, BitVec.toNat_ofNat, BitVec.toNat_ofNat, Nat.mod_eq_of_lt (by omega), Nat.mod_eq_of_lt (by omega)]
  have h2 : x &&& y ≤ x := Nat.and_le_left
  show IntKind.u64.wrap ((BitVec.ofInt 64 (x : Int) &&& BitVec.ofInt 64 (y : Int)).toNat : Int) = _
  rw [h1]
  simp [IntKind.wrap, IntKind.bits, IntKind.signed]
  omega
set_option maxRecDepth 100000 in
set_option maxHeartbeats 1000000 in
theorem tz_ok (x k t : Nat) (w : World) (hx : Hid (x = 2 ^ k * (2 * t + 1))) (hl : x < 18446744073709551616) (h0 : 0 < x) (hk : k < 64) (hB : Hid (Bruijn w)) :
    Calls Tryd.prog 34 #[.int .u64 x] w fun e w' => e = .returned (.int .i64 k) ∧ w' = w := by
  have b0 : ((x : Int) == 0) = false := by simp; omega
  have hn : IntKind.u64.wrap (-(x : Int)) = ((18446744073709551616 - x : Nat) : Int) := by
    simp [IntKind.wrap, IntKind.bits, IntKind.signed]
    omega
  have ha : bits BinOp.and IntKind.u64 (x : Int) (IntKind.u64.wrap (-(x : Int))) = ((2 ^ k : Nat) : Int) := by
    rw [hn, and_u64 _ _ hl (by omega)]
    have h := low_and hx.out (show x < 2 ^ 64 by omega)
    rw [show (2 : Nat) ^ 64 = 18446744073709551616 by decide] at h
    rw [h]
  obtain ⟨hi, ht⟩ := bruijn k hk
  have hE : IntKind.u64.wrap (bits BinOp.and IntKind.u64 (x : Int) (IntKind.u64.wrap (-(x : Int))) * 285870213051353865) / 288230376151711744 = (((2 ^ k * 285870213051353865 % 18446744073709551616) / 2 ^ 58 : Nat) : Int) := by
    rw [ha, show ((2 ^ k : Nat) : Int) * 285870213051353865 = ((2 ^ k * 285870213051353865 : Nat) : Int) by simp, wrap_u64]
    generalize 2 ^ k * 285870213051353865 % 18446744073709551616 = y
    omega
  have c0 : w.cell? ⟨0, (IntKind.u64.wrap (bits BinOp.and IntKind.u64 (x : Int) (IntKind.u64.wrap (-(x : Int))) * 285870213051353865) / 288230376151711744).toNat, none⟩ = some (.int .u8 (k : Int)) := by rw [hE, Int.toNat_natCast, hB.out _ hi, ht]
  have q0 : 0 ≤ IntKind.u64.wrap (bits BinOp.and IntKind.u64 (x : Int) (IntKind.u64.wrap (-(x : Int))) * 285870213051353865) / 288230376151711744 := by rw [hE]; omega
  have q1 : IntKind.u64.wrap (bits BinOp.and IntKind.u64 (x : Int) (IntKind.u64.wrap (-(x : Int))) * 285870213051353865) / 288230376151711744 < 64 := by rw [hE]; omega
  clear hn ha ht hx hl h0 hB hi hE
  go_enter Tryd.func34, Tryd.ntmps34
  go_wp2
  go_ret
  exact ⟨rfl, rfl⟩
end Go.Proofs.YtplhghhfdabccaaDoor
