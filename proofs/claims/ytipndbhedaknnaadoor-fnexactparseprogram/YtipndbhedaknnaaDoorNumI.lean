import Derived.Test.YtipndbhedaknnaaDoorNum
import Derived.Test.YtipndbhedaknnaaDoorFldI
namespace Go.Proofs.YtipndbhedaknnaaDoor
open Go.RowKit
attribute [local go_sem ↓] Go.wp_at_zero Go.wp_at_succ

/- THE CODE's READING OF NUMBERS. -/
theorem numGo_nat : ∀ (l : List UInt8) (n : Int), 0 ≤ n → 0 ≤ numGo n l ∨ numGo n l = -1
  | [], n, h => .inl h
  | c :: r, n, h => by
    rw [numGo]
    cases hb : btw c.toNat 48 57
    · rw [if_neg (by simp)]; exact .inr rfl
    · rw [if_pos rfl]
      have : 48 ≤ (c.toNat : Int) := by unfold btw at hb; simp at hb; omega
      exact numGo_nat r _ (by omega)
theorem numF_nat (l : List UInt8) : 0 ≤ numF l ∨ numF l = -1 := by
  unfold numF
  split
  · exact .inr rfl
  · exact numGo_nat l 0 (Int.le_refl _)
/-- What the code answers for a number. -/
def natOf (n : Int) : Int := if 0 ≤ n then n else 0
set_option maxRecDepth 100000 in
set_option maxHeartbeats 1000000 in
theorem readNumber_ok (t : ByteArray) (w : World) (hsz : t.size ≤ 1048576) :
    Calls Tryd.prog 48 #[.string t] w fun e w' => e = .returned (.tuple #[.int .i64 (natOf (numF t.data.toList)), .bool (decide (0 ≤ numF t.data.toList))]) ∧ w' = w := by
  have hz : t.data.toList.length = t.size := by simp
  have hbad : numF t.data.toList = -1 → (Value.tuple #[.int .i64 (natOf (numF t.data.toList)), .bool (decide (0 ≤ numF t.data.toList))]) = .tuple #[.int .i64 0, .bool false] := fun h => by rw [h]; rfl
  have hre := empty_of t
  by_cases h0 : t.size = 0
  · have hn : numF t.data.toList = -1 := by unfold numF; rw [if_pos (.inl (by omega))]
    rw [hbad hn]
    rw [decide_eq_true h0] at hre
    clear hbad hn
    go_enter Tryd.func48, Tryd.ntmps48
    go_wp2
    go_ret2
    exact ⟨rfl, rfl⟩
  rw [decide_eq_false h0] at hre
  by_cases h5 : 5 < (t.size : Int)
  · have hn : numF t.data.toList = -1 := by unfold numF; rw [if_pos (.inr (.inl (by omega)))]
    rw [hbad hn]
    clear hbad hn
    go_enter Tryd.func48, Tryd.ntmps48
    go_wp2
    go_ret2
    exact ⟨rfl, rfl⟩
  have ht0 : 0 < t.size := by omega
  have ht0' : (0 : Int) < (t.size : Int) := by omega
  have hd0 : (t.data.toList.getD 0 0) = t[0] := by
    have := drop_at t 0 ht0
    rw [List.drop_zero] at this
    rw [this]; rfl
  by_cases hl : 1 < (t.size : Int) ∧ (t[0].toNat : Int) = 48
  · obtain ⟨hl1, hl2⟩ := hl
    have hn : numF t.data.toList = -1 := by unfold numF; rw [if_pos (.inr (.inr ⟨by omega, by rw [hd0]; omega⟩))]
    rw [hbad hn]
    clear hbad hn hd0
    go_enter Tryd.func48, Tryd.ntmps48
    go_wp2
    go_ret2
    exact ⟨rfl, rfl⟩
  have HS0 : Hid (NumSt t 0 0) := ⟨by unfold numF; rw [if_neg (fun x => by rw [hd0] at x; omega), List.drop_zero], Int.le_refl _, by decide⟩
  clear hd0 hbad hz
  have hsm : t.size ≤ 5 := by omega
  have hfin : ∀ n : Int, 0 ≤ n → numF t.data.toList = n → (Value.tuple #[.int .i64 (natOf (numF t.data.toList)), .bool (decide (0 ≤ numF t.data.toList))]) = .tuple #[.int .i64 n, .bool true] := fun n h0 h => by rw [h]; unfold natOf; rw [if_pos h0, decide_eq_true h0]
  have hbd : numF t.data.toList = -1 → (Value.tuple #[.int .i64 (natOf (numF t.data.toList)), .bool (decide (0 ≤ numF t.data.toList))]) = .tuple #[.int .i64 0, .bool false] := fun h => by rw [h]; rfl
  have Hf : Hid _ := hfin
  have Hb : Hid _ := hbd
  clear hfin hbd
  generalize (Value.tuple #[.int .i64 (natOf (numF t.data.toList)), .bool (decide (0 ≤ numF t.data.toList))]) = rv at *
  have hgo : ∀ b1 : Bool, decide (1 < (t.size : Int)) = b1 → Calls Tryd.prog 48 #[.string t] w fun e w' => e = .returned rv ∧ w' = w := by
    intro b1 hb1
    have h48 : b1 = true → ((t[0].toNat : Int) == 48) = false := fun hb => by
      subst hb
      have : ¬(t[0].toNat : Int) = 48 := fun x => hl ⟨by simpa using hb1, x⟩
      simpa using this
    cases b1
    · have h1 : ¬1 < (t.size : Int) := by simpa using hb1
      clear h48 hb1 hl
      go_enter Tryd.func48, Tryd.ntmps48
      go_wp2
      go_loopw [4, 25] (fun nv iv wr => ∃ (k : Nat) (n : Int), k ≤ t.size ∧ nv = .int .i64 n ∧ iv = .int .i64 k ∧ Hid (NumSt t k n) ∧ wr = w)
        (fun _ i _ => t.size - (intOf i).toNat)
      case atStart => exact ⟨0, 0, Nat.zero_le _, rfl, rfl, HS0, rfl⟩
      case round =>
        obtain ⟨k, n, hk, rfl, rfl, HS, rfl⟩ := hrel
        have hn0 := HS.out.lo
        have hn1 : n < 100000 := by
          have h1 := HS.out.hi
          have h2 := pow5 (show k ≤ 5 by omega)
          omega
        by_cases hlt : (k : Int) < (t.size : Int)
        case neg =>
          have he := Hf.out n hn0 (HS.out.full (by omega))
          subst he
          go_wp2
          go_ret2
          exact ⟨rfl, rfl⟩
        have hlt' : k < t.size := by omega
        have hk0 : (0 : Int) ≤ (k : Int) := by omega
        have hcb : t[k].toNat < 256 := t[k].toNat_lt
        by_cases hc1 : 48 ≤ (t[k].toNat : Int)
        case neg =>
          have he := Hb.out (HS.out.bad hlt' (by unfold btw; simp; omega))
          subst he
          go_wp2
          go_ret2
          exact ⟨rfl, rfl⟩
        by_cases hc2 : (t[k].toNat : Int) ≤ 57
        case neg =>
          have he := Hb.out (HS.out.bad hlt' (by unfold btw; simp; omega))
          subst he
          go_wp2
          go_ret2
          exact ⟨rfl, rfl⟩
        have HN : Hid (NumSt t (k + 1) (n * 10 + ((t[k].toNat : Int) - 48))) := HS.out.step hlt' (by unfold btw; simp; omega)
        go_wp2
        go_roundw
        case rel => exact ⟨k + 1, n * 10 + ((t[k].toNat : Int) - 48), by omega, by first | rfl | go_num | (congr 1; omega), by go_num, HN.out, by first | rfl | trivial⟩
        case measure => simp [intOf]; omega
    · have h1 : 1 < (t.size : Int) := by simpa using hb1
      have h2 := h48 rfl
      clear h48 hb1 hl
      go_enter Tryd.func48, Tryd.ntmps48
      go_wp2
      go_loopw [4, 25] (fun nv iv wr => ∃ (k : Nat) (n : Int), k ≤ t.size ∧ nv = .int .i64 n ∧ iv = .int .i64 k ∧ Hid (NumSt t k n) ∧ wr = w)
        (fun _ i _ => t.size - (intOf i).toNat)
      case atStart => exact ⟨0, 0, Nat.zero_le _, rfl, rfl, HS0, rfl⟩
      case round =>
        obtain ⟨k, n, hk, rfl, rfl, HS, rfl⟩ := hrel
        have hn0 := HS.out.lo
        have hn1 : n < 100000 := by
          have h1 := HS.out.hi
          have h2 := pow5 (show k ≤ 5 by omega)
          omega
        by_cases hlt : (k : Int) < (t.size : Int)
        case neg =>
          have he := Hf.out n hn0 (HS.out.full (by omega))
          subst he
          go_wp2
          go_ret2
          exact ⟨rfl, rfl⟩
        have hlt' : k < t.size := by omega
        have hk0 : (0 : Int) ≤ (k : Int) := by omega
        have hcb : t[k].toNat < 256 := t[k].toNat_lt
        by_cases hc1 : 48 ≤ (t[k].toNat : Int)
        case neg =>
          have he := Hb.out (HS.out.bad hlt' (by unfold btw; simp; omega))
          subst he
          go_wp2
          go_ret2
          exact ⟨rfl, rfl⟩
        by_cases hc2 : (t[k].toNat : Int) ≤ 57
        case neg =>
          have he := Hb.out (HS.out.bad hlt' (by unfold btw; simp; omega))
          subst he
          go_wp2
          go_ret2
          exact ⟨rfl, rfl⟩
        have HN : Hid (NumSt t (k + 1) (n * 10 + ((t[k].toNat : Int) - 48))) := HS.out.step hlt' (by unfold btw; simp; omega)
        go_wp2
        go_roundw
        case rel => exact ⟨k + 1, n * 10 + ((t[k].toNat : Int) - 48), by omega, by first | rfl | go_num | (congr 1; omega), by go_num, HN.out, by first | rfl | trivial⟩
        case measure => simp [intOf]; omega
  exact hgo _ rfl

theorem natOf_in {n least most : Int} (h0 : 0 ≤ least) (h : btw n least most = true) : natOf n = n := by
  unfold natOf
  rw [if_pos]
  unfold btw at h
  simp at h
  omega
def headN (ls : List (List UInt8)) : Int := numF (ls.headD [])
set_option maxRecDepth 100000 in
set_option maxHeartbeats 1000000 in
theorem number_ok (b : Nat) (ls : List (List UInt8)) (bad : Bool) (g o cap : Nat) (least most : Int) (w : World) (h : FldAt w b ls bad g o cap) (hsz : (ls.headD []).length ≤ 1048576) (hl0 : 0 ≤ least) :
    Calls Tryd.prog 35 #[.pointer (some ⟨b, 0, none⟩), .int .i64 least, .int .i64 most] w fun e w' => e = .returned (.int .i64 (natOf (headN ls))) ∧ FldTo w b ls.tail (bad || !btw (headN ls) least most) w' := by
  have hnx := next_ok b ls bad g o cap w h
  obtain ⟨hd, hhd⟩ : ∃ hd, ls.headD [] = hd := ⟨_, rfl⟩
  obtain ⟨n, hn⟩ : ∃ n, headN ls = n := ⟨_, rfl⟩
  have hrd : ∀ w, Calls Tryd.prog 48 #[strV hd] w fun e w' => e = .returned (.tuple #[.int .i64 (natOf n), .bool (decide (0 ≤ n))]) ∧ w' = w := fun w => by
    have := readNumber_ok ⟨hd.toArray⟩ w (by rw [hhd] at hsz; show hd.toArray.size ≤ _; simpa using hsz)
    rw [show numF (⟨hd.toArray⟩ : ByteArray).data.toList = n by rw [← hn]; unfold headN; rw [hhd]] at this
    exact this
  have hz : ls.length = 0 → btw n least most = false := fun h0 => by
    have : ls = [] := List.eq_nil_of_length_eq_zero h0
    subst this
    rw [← hn]
    unfold headN btw
    have : numF ([] : List UInt8) = -1 := by decide
    simp [this]
    omega
  rw [hhd] at hnx
  rw [hn]
  cases hok : btw n least most with
  | true =>
    have hb : 0 ≤ n ∧ least ≤ n ∧ n ≤ most := by unfold btw at hok; simp at hok; omega
    obtain ⟨hb1, hb2, hb3⟩ := hb
    have hnn : natOf n = n := natOf_in hl0 hok
    rw [hnn] at hrd ⊢
    rw [decide_eq_true hb1] at hrd
    have hz' : decide (ls.length = 0) = false := by
      simp only [decide_eq_false_iff_not]
      intro h0
      rw [hz h0] at hok
      cases hok
    rw [hz'] at hnx
    clear hok hz hz' hnn
    go_enter Tryd.func35, Tryd.ntmps35
    go_wp2_with fail
    refine hnx.mono ?_
    rintro e w1 ⟨rfl, hg1, g1, o1, cap1, h1⟩
    go_wp2_with fail
    refine (hrd w1).mono ?_
    rintro e w2 ⟨rfl, hw2⟩
    subst w2
    go_wp2
    go_ret
    exact ⟨rfl, hg1, _, _, _, by simpa using h1⟩
  | false =>
    have hno : ¬(least ≤ n ∧ n ≤ most) := fun hx => by unfold btw at hok; simp at hok; omega
    clear hok hz
    have hgo : ∀ m : Int, natOf n = m → Calls Tryd.prog 35 #[.pointer (some ⟨b, 0, none⟩), .int .i64 least, .int .i64 most] w fun e w' => e = .returned (.int .i64 m) ∧ FldTo w b ls.tail (bad || !false) w' := by
      intro m hm
      rw [hm] at hrd
      by_cases h0 : 0 ≤ n
      · have hmn : m = n := by rw [← hm]; unfold natOf; rw [if_pos h0]
        subst hmn
        rw [decide_eq_true h0] at hrd
        clear hm hn
        by_cases hlt : m < least
        all_goals
          go_enter Tryd.func35, Tryd.ntmps35
          go_wp2_with fail
          refine hnx.mono ?_
          rintro e w1 ⟨rfl, hg1, g1, o1, cap1, h1⟩
          go_wp2_with fail
          refine (hrd w1).mono ?_
          rintro e w2 ⟨rfl, hw2⟩
          subst w2
          have c1 := h1.c1
          have f1 := h1.f 1
          have hgt : ¬m < least → most < m := fun x => by omega
          first | (have hgt' := hgt hlt; go_wp2) | go_wp2
          go_ret
          exact ⟨rfl, hg1.trans (grown_set _ _ _ _), _, _, _, by simpa using h1.setBad true⟩
      · rw [decide_eq_false h0] at hrd
        clear hm hn
        go_enter Tryd.func35, Tryd.ntmps35
        go_wp2_with fail
        refine hnx.mono ?_
        rintro e w1 ⟨rfl, hg1, g1, o1, cap1, h1⟩
        go_wp2_with fail
        refine (hrd w1).mono ?_
        rintro e w2 ⟨rfl, hw2⟩
        subst w2
        have c1 := h1.c1
        have f1 := h1.f 1
        go_wp2
        go_ret
        exact ⟨rfl, hg1.trans (grown_set _ _ _ _), _, _, _, by simpa using h1.setBad true⟩
    exact hgo _ rfl
end Go.Proofs.YtipndbhedaknnaaDoor
