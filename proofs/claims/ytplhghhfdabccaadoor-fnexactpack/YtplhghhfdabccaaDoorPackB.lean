import Derived.Test.YtplhghhfdabccaaDoorPackC
namespace Go.Proofs.YtplhghhfdabccaaDoor
open Go.RowKit
attribute [local go_sem ↓] Go.wp_at_zero Go.wp_at_succ

/- THE SLOTS TAKEN, a bit each. -/
def wdRow (n : Nat) (T : Nat → Nat) : Array Value := ((List.range n).map fun i => Value.int .u64 (T i : Int)).toArray
theorem wdRow_get (n : Nat) (T : Nat → Nat) {i : Nat} (h : i < n) : (wdRow n T)[i]? = some (.int .u64 (T i : Int)) := by
  simp [wdRow, h]
def bitAt (T : Nat → Nat) (s : Nat) : Bool := (T (s / 64)).testBit (s % 64)
theorem or_u64 (x y : Nat) (hx : x < 18446744073709551616) (hy : y < 18446744073709551616) : bits BinOp.or IntKind.u64 (x : Int) (y : Int) = ((x ||| y : Nat) : Int) := by
  have h1 : (BitVec.ofInt 64 (x : Int) ||| BitVec.ofInt 64 (y : Int)).toNat = x ||| y := by
    rw [BitVec.ofInt_natCast, BitVec.ofInt_natCast, BitVec.toNat_or, BitVec.toNat_ofNat, BitVec.toNat_ofNat, Nat.mod_eq_of_lt (by omega), Nat.mod_eq_of_lt (by omega)]
  have h2 : x ||| y < 18446744073709551616 := Nat.or_lt_two_pow (n := 64) hx hy
  show IntKind.u64.wrap ((BitVec.ofInt 64 (x : Int) ||| BitVec.ofInt 64 (y : Int)).toNat : Int) = _
  rw [h1]
  simp [IntKind.wrap, IntKind.bits, IntKind.signed]
  omega
theorem wrap_u64 (x : Nat) : IntKind.u64.wrap (x : Int) = ((x % 18446744073709551616 : Nat) : Int) := by
  simp [IntKind.wrap, IntKind.bits, IntKind.signed]
/-- The 64 slots from s on. -/
def winN (T : Nat → Nat) (s : Nat) : Nat := (T (s / 64) / 2 ^ (s % 64)) ||| (T (s / 64 + 1) * 2 ^ (64 - s % 64) % 18446744073709551616)
theorem winN_lt (T : Nat → Nat) (hT : ∀ i, T i < 18446744073709551616) (s : Nat) : winN T s < 18446744073709551616 :=
  Nat.or_lt_two_pow (n := 64) (Nat.lt_of_le_of_lt (Nat.div_le_self _ _) (hT _)) (Nat.mod_lt _ (by omega))
theorem winN_bit (T : Nat → Nat) (hT : ∀ i, T i < 18446744073709551616) (s i : Nat) (hi : i < 64) : (winN T s).testBit i = bitAt T (s + i) := by
  unfold winN bitAt
  rw [Nat.testBit_or, Nat.testBit_div_two_pow, show (18446744073709551616 : Nat) = 2 ^ 64 from rfl, Nat.testBit_mod_two_pow, Nat.testBit_mul_two_pow]
  by_cases h : s % 64 + i < 64
  · have e1 : (s + i) / 64 = s / 64 := by omega
    have e2 : (s + i) % 64 = i + s % 64 := by omega
    have e3 : ¬64 - s % 64 ≤ i := by omega
    rw [e1, e2]
    simp [e3]
  · have e1 : (s + i) / 64 = s / 64 + 1 := by omega
    have e2 : (s + i) % 64 = i - (64 - s % 64) := by omega
    have e3 : 64 - s % 64 ≤ i := by omega
    have e4 : (T (s / 64)).testBit (i + s % 64) = false := Nat.testBit_lt_two_pow (Nat.lt_of_lt_of_le (hT _) (by
      have : 2 ^ 64 ≤ 2 ^ (i + s % 64) := Nat.pow_le_pow_right (by omega) (by omega)
      exact this))
    rw [e1, e2, e4]
    simp [e3, hi]

set_option maxRecDepth 100000 in
set_option maxHeartbeats 1000000 in
theorem window_ok (p g cap : Nat) (T : Nat → Nat) (u1 u2 : Value) (s : Nat) (w : World) (hp : w.heap[p]? = some (.cells #[.slice (some ⟨g, 0, none⟩) 943 cap, u1, u2] 50 (0, 0))) (hg : w.heap[g]? = some (.cells (wdRow 943 T) 56 (0, 0))) (hs : s < 60288) (hT : Hid (∀ i, T i < 18446744073709551616)) :
    Calls Tryd.prog 33 #[.pointer (some ⟨p, 0, none⟩), .int .i64 s] w fun e w' => e = .returned (.int .u64 (winN T s : Int)) ∧ ∃ n, w' = w.drewN n := by
  have c0 : w.cell? ⟨p, 0, none⟩ = some (.slice (some ⟨g, 0, none⟩) 943 cap) := row_cells hp 0
  have d0 : w.cell? ⟨g, s / 64, none⟩ = some (.int .u64 (T (s / 64) : Int)) := by rw [cell_of_row _ _ _ _ _ _ hg, wdRow_get _ _ (by omega)]
  have d1 : w.cell? ⟨g, s / 64 + 1, none⟩ = some (.int .u64 (T (s / 64 + 1) : Int)) := by rw [cell_of_row _ _ _ _ _ _ hg, wdRow_get _ _ (by omega)]
  have t0 := hT.out (s / 64)
  have t1 := hT.out (s / 64 + 1)
  have e1 : (s : Int) / 64 = ((s / 64 : Nat) : Int) := by omega
  have e2 : (s : Int) % 64 = ((s % 64 : Nat) : Int) := by omega
  have l1 : s / 64 < 942 := by omega
  have l2 : s % 64 < 64 := by omega
  have HW : Hid (winN T s = (T (s / 64) / 2 ^ (s % 64)) ||| (T (s / 64 + 1) * 2 ^ (64 - s % 64) % 18446744073709551616)) := rfl
  generalize winN T s = wn at *
  generalize T (s / 64) = a at *
  generalize T (s / 64 + 1) = b at *
  generalize hq : s / 64 = q at *
  generalize hr : s % 64 = r at *
  have i1 : (q : Int) < 943 := by omega
  have i2 : (q : Int) + 1 < 943 := by omega
  have i3 : (0 : Int) ≤ (q : Int) := by omega
  clear hq hr hp hg hT
  go_enter Tryd.func33, Tryd.ntmps33
  go_wp2
  go_quiet (fail)
  go_wp2
  go_ret
  refine ⟨ret_int ?_, _, rfl⟩
  rw [HW.out]
  have k1 : ((a : Int) / 2 ^ r) = ((a / 2 ^ r : Nat) : Int) := by simp
  have k2 : ((b : Int) * 2 ^ (64 - r)) = ((b * 2 ^ (64 - r) : Nat) : Int) := by simp
  rw [k1, k2, wrap_u64, or_u64 _ _ (Nat.lt_of_le_of_lt (Nat.div_le_self _ _) t0) (Nat.mod_lt _ (by omega))]
end Go.Proofs.YtplhghhfdabccaaDoor
