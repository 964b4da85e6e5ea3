import Derived.Test.YtipndbhedaknnaaDoorWrd
namespace Go.Proofs.YtipndbhedaknnaaDoor
open Go.RowKit
attribute [local go_sem ↓] Go.wp_at_zero Go.wp_at_succ

/- NUMBERS, ACTIONS. -/
def numGo (n : Int) : List UInt8 → Int
  | [] => n
  | c :: r => if btw c.toNat 48 57 then numGo (n * 10 + ((c.toNat : Int) - 48)) r else -1
def numF (l : List UInt8) : Int := if l.length < 1 ∨ 5 < l.length ∨ (1 < l.length ∧ (l.getD 0 0).toNat = 48) then -1 else numGo 0 l
structure NumSt (t : ByteArray) (k : Nat) (n : Int) : Prop where
  eq : numF t.data.toList = numGo n (t.data.toList.drop k)
  lo : 0 ≤ n
  hi : n < (10 ^ k : Nat)
theorem pow5 {k : Nat} (h : k ≤ 5) : (10 ^ k : Nat) ≤ 100000 := Nat.le_trans (Nat.pow_le_pow_right (by omega) h) (by decide)
theorem NumSt.full {t : ByteArray} {k : Nat} {n : Int} (h : NumSt t k n) (hk : ¬k < t.size) : numF t.data.toList = n := by
  rw [h.eq, List.drop_eq_nil_of_le (by rw [Array.length_toList]; show t.size ≤ k; omega)]; rfl
theorem NumSt.bad {t : ByteArray} {k : Nat} {n : Int} (h : NumSt t k n) (hk : k < t.size) (hb : btw t[k].toNat 48 57 = false) : numF t.data.toList = -1 := by
  rw [h.eq, drop_at t k hk, numGo, if_neg (by simp [hb])]
theorem NumSt.step {t : ByteArray} {k : Nat} {n : Int} (h : NumSt t k n) (hk : k < t.size) (hb : btw t[k].toNat 48 57 = true) : NumSt t (k + 1) (n * 10 + ((t[k].toNat : Int) - 48)) := by
  have h1 := h.lo
  have h2 := h.hi
  have h3 : 48 ≤ (t[k].toNat : Int) ∧ (t[k].toNat : Int) ≤ 57 := by simpa [btw] using hb
  refine ⟨?_, by omega, ?_⟩
  · rw [h.eq, drop_at t k hk, numGo, if_pos hb]
  · rw [Nat.pow_succ]
    omega
theorem numF_bd (l : List UInt8) : -1 ≤ numF l ∧ numF l ≤ 99999 := by
  have key : ∀ (l : List UInt8) (n : Int) (k : Nat), 0 ≤ n → n < (10 ^ k : Nat) → -1 ≤ numGo n l ∧ numGo n l < (10 ^ (k + l.length) : Nat) := by
    intro l
    induction l with
    | nil => intro n k h1 h2; exact ⟨by rw [numGo]; omega, by rw [numGo]; simpa using h2⟩
    | cons c r ih =>
      intro n k h1 h2
      rw [numGo]
      split
      · rename_i hb
        have h3 : 48 ≤ (c.toNat : Int) ∧ (c.toNat : Int) ≤ 57 := by simpa [btw] using hb
        have := ih (n * 10 + ((c.toNat : Int) - 48)) (k + 1) (by omega) (by rw [Nat.pow_succ]; omega)
        rw [List.length_cons, show k + (r.length + 1) = k + 1 + r.length by omega]
        exact this
      · have : 0 < 10 ^ (k + (c :: r).length) := Nat.pow_pos (by omega)
        omega
  unfold numF
  split
  · omega
  · rename_i h
    have h5 : l.length ≤ 5 := by omega
    have := key l 0 0 (by omega) (by simp)
    have := pow5 (k := 0 + l.length) (by omega)
    omega

set_option maxRecDepth 100000 in
set_option maxHeartbeats 1000000 in
theorem l5Number_ok (t : ByteArray) (w : World) (hsz : t.size ≤ 1048576) :
    Calls Tryd.prog 32 #[.string t] w fun e w' => e = .returned (.int .i64 (numF t.data.toList)) ∧ w' = w := by
  have hl : t.data.toList.length = t.size := by rw [Array.length_toList]; rfl
  by_cases h1 : t.size < 1
  · have HN : Hid (numF t.data.toList = -1) := by show _ = _; unfold numF; rw [if_pos (by rw [hl]; exact .inl h1)]
    have h1' : (t.size : Int) < 1 := by omega
    clear hl
    go_enter Tryd.func32, Tryd.ntmps32
    go_wp2
    go_ret
    exact ⟨ret_int HN.out.symm, rfl⟩
  by_cases h2 : 5 < t.size
  · have HN : Hid (numF t.data.toList = -1) := by show _ = _; unfold numF; rw [if_pos (by rw [hl]; exact .inr (.inl h2))]
    have h1' : ¬(t.size : Int) < 1 := by omega
    have h2' : (t.size : Int) > 5 := by omega
    clear hl
    go_enter Tryd.func32, Tryd.ntmps32
    go_wp2
    go_ret
    exact ⟨ret_int HN.out.symm, rfl⟩
  have hp : 0 < t.size := by omega
  have hg : t.data.toList.getD 0 0 = t[0] := by
    have := drop_at t 0 hp
    rw [List.drop_zero] at this
    rw [this]; rfl
  have h1' : ¬(t.size : Int) < 1 := by omega
  have h2' : ¬(t.size : Int) > 5 := by omega
  have hpi : (0 : Int) < (t.size : Int) := by omega
  by_cases h3 : 1 < t.size ∧ t[0].toNat = 48
  · have HN : Hid (numF t.data.toList = -1) := by show _ = _; unfold numF; rw [if_pos (by rw [hl, hg]; exact .inr (.inr h3))]
    obtain ⟨h3a, h3b⟩ := h3
    have h3a' : (t.size : Int) > 1 := by omega
    have h3b' : (t[0].toNat : Int) = 48 := by omega
    clear hl hg h3b
    go_enter Tryd.func32, Tryd.ntmps32
    go_wp2
    go_ret
    exact ⟨ret_int HN.out.symm, rfl⟩
  have HS0 : Hid (NumSt t 0 0) := ⟨by unfold numF; rw [if_neg (by rw [hl, hg]; exact fun h => h.elim h1 (fun h => h.elim h2 h3))]; rfl, by omega, by simp⟩
  clear hl hg
  have main : Hid ((t.size : Int) > 1 → ¬(t[0].toNat : Int) = 48) := fun h hc => h3 ⟨by omega, by omega⟩
  by_cases h4 : (t.size : Int) > 1
  all_goals
    try have h5 := main.out h4
    clear main h3
    go_enter Tryd.func32, Tryd.ntmps32
    go_wp2
    go_loop [3, 4] (fun nv iv => ∃ (k : Nat) (n : Int), k ≤ t.size ∧ iv = .int .i64 k ∧ nv = .int .i64 n ∧ Hid (NumSt t k n))
      (fun _ i => t.size - (intOf i).toNat)
    case atStart => exact ⟨0, 0, Nat.zero_le _, rfl, rfl, HS0⟩
    case round =>
      obtain ⟨k, n, hk, rfl, rfl, HS⟩ := hrel
      have n0 := HS.out.lo
      have n1 : n < 100000 := by have := HS.out.hi; have := pow5 (k := k) (by omega); omega
      by_cases hlt : k < t.size
      · have hi0 : (0 : Int) ≤ (k : Int) := by omega
        have hi1 : (k : Int) < (t.size : Int) := by omega
        have hcb : t[k].toNat < 256 := t[k].toNat_lt
        cases hb : btw t[k].toNat 48 57
        · have HN : Hid (numF t.data.toList = -1) := HS.out.bad hlt hb
          go_wp2_with (go_at_call 33; refine (between_ok _ _ _ _).mono ?_; rintro e w' ⟨rfl, hw'⟩; subst w')
          go_ret
          exact ⟨ret_int HN.out.symm, rfl⟩
        · have HN : Hid _ := HS.out.step hlt hb
          have hd : 48 ≤ (t[k].toNat : Int) ∧ (t[k].toNat : Int) ≤ 57 := by simpa [btw] using hb
          obtain ⟨hd1, hd2⟩ := hd
          go_wp2_with (go_at_call 33; refine (between_ok _ _ _ _).mono ?_; rintro e w' ⟨rfl, hw'⟩; subst w')
          go_round
          case rel => exact ⟨k + 1, _, by omega, by go_num, by go_num, HN⟩
          case measure => simp [intOf]; omega
      · have HN : Hid (numF t.data.toList = n) := HS.out.full hlt
        go_wp2
        go_ret
        exact ⟨ret_int HN.out.symm, rfl⟩
end Go.Proofs.YtipndbhedaknnaaDoor
