import Derived.Test.YtplhghhfdabccaaSessOpen
namespace Go.Proofs.Ytplhghhfdabccaa
open Go.RowKit
attribute [local go_sem ↓] Go.wp_at_zero Go.wp_at_succ
/- THE CODE'S SIDE: a session behind a pointer. -/
theorem decT {p : Prop} [Decidable p] (h : p) : decide p = true := decide_eq_true h
theorem decF {p : Prop} [Decidable p] (h : ¬p) : decide p = false := decide_eq_false h

set_option maxRecDepth 100000 in
set_option maxHeartbeats 1000000 in
theorem isOK_a (g : Nat) (L : Int) (B : ByteArray) (C : Bool) (S N : Int) (w : World) (hg : w.heap[g]? = some (.cells #[.int .i64 L, .string B, .bool C, .int .i64 S, .int .i64 N] 60 (0, 0))) (h1 : L < 1) :
    Calls Try.prog 85 #[.pointer (some ⟨g, 0, none⟩)] w fun e w' => e = .returned (.bool false) ∧ Below w.heap.size w w' := by
  obtain ⟨c0, c1, c2, c3, c4⟩ := row_five hg
  clear hg
  have d1 : decide (L < 1) = true := decT h1
  go_enter Try.func85, Try.ntmps85
  go_wp2
  go_quiet (fail)
  go_wp2
  go_ret
  exact ⟨rfl, below_drewN (Below.refl _ _) _⟩

set_option maxRecDepth 100000 in
set_option maxHeartbeats 1000000 in
theorem isOK_b (g : Nat) (L : Int) (B : ByteArray) (C : Bool) (S N : Int) (w : World) (hg : w.heap[g]? = some (.cells #[.int .i64 L, .string B, .bool C, .int .i64 S, .int .i64 N] 60 (0, 0))) (h1 : ¬L < 1) (h2 : L > 4096) :
    Calls Try.prog 85 #[.pointer (some ⟨g, 0, none⟩)] w fun e w' => e = .returned (.bool false) ∧ Below w.heap.size w w' := by
  obtain ⟨c0, c1, c2, c3, c4⟩ := row_five hg
  clear hg
  have d1 : decide (L < 1) = false := decF h1
  have d2 : decide (L > 4096) = true := decT h2
  go_enter Try.func85, Try.ntmps85
  go_wp2
  go_quiet (fail)
  go_wp2
  go_ret
  exact ⟨rfl, below_drewN (Below.refl _ _) _⟩

set_option maxRecDepth 100000 in
set_option maxHeartbeats 1000000 in
theorem isOK_c (g : Nat) (L : Int) (B : ByteArray) (C : Bool) (S N : Int) (w : World) (hg : w.heap[g]? = some (.cells #[.int .i64 L, .string B, .bool C, .int .i64 S, .int .i64 N] 60 (0, 0))) (h1 : ¬L < 1) (h2 : ¬L > 4096) (h3 : (B.size : Int) > L) :
    Calls Try.prog 85 #[.pointer (some ⟨g, 0, none⟩)] w fun e w' => e = .returned (.bool false) ∧ Below w.heap.size w w' := by
  obtain ⟨c0, c1, c2, c3, c4⟩ := row_five hg
  clear hg
  have d1 : decide (L < 1) = false := decF h1
  have d2 : decide (L > 4096) = false := decF h2
  have d3 : decide ((B.size : Int) > L) = true := decT h3
  go_enter Try.func85, Try.ntmps85
  go_wp2
  go_quiet (fail)
  go_wp2
  go_ret
  exact ⟨rfl, below_drewN (Below.refl _ _) _⟩

set_option maxRecDepth 100000 in
set_option maxHeartbeats 1000000 in
theorem isOK_d (g : Nat) (L : Int) (B : ByteArray) (C : Bool) (S N : Int) (w : World) (hg : w.heap[g]? = some (.cells #[.int .i64 L, .string B, .bool C, .int .i64 S, .int .i64 N] 60 (0, 0))) (h1 : ¬L < 1) (h2 : ¬L > 4096) (h3 : ¬(B.size : Int) > L) (h4 : ¬N ≥ 0) :
    Calls Try.prog 85 #[.pointer (some ⟨g, 0, none⟩)] w fun e w' => e = .returned (.bool false) ∧ Below w.heap.size w w' := by
  obtain ⟨c0, c1, c2, c3, c4⟩ := row_five hg
  clear hg
  have d1 : decide (L < 1) = false := decF h1
  have d2 : decide (L > 4096) = false := decF h2
  have d3 : decide ((B.size : Int) > L) = false := decF h3
  have d4 : decide (N ≥ 0) = false := decF h4
  go_enter Try.func85, Try.ntmps85
  go_wp2
  go_quiet (fail)
  go_wp2
  go_quiet (fail)
  go_wp2
  go_ret
  exact ⟨rfl, below_drewN (below_drewN (Below.refl _ _) _) _⟩

set_option maxRecDepth 100000 in
set_option maxHeartbeats 1000000 in
theorem isOK_e (g : Nat) (L : Int) (B : ByteArray) (C : Bool) (S N : Int) (w : World) (hg : w.heap[g]? = some (.cells #[.int .i64 L, .string B, .bool C, .int .i64 S, .int .i64 N] 60 (0, 0))) (h1 : ¬L < 1) (h2 : ¬L > 4096) (h3 : ¬(B.size : Int) > L) (h4 : N ≥ 0) (h5 : ¬N ≤ (B.size : Int)) :
    Calls Try.prog 85 #[.pointer (some ⟨g, 0, none⟩)] w fun e w' => e = .returned (.bool false) ∧ Below w.heap.size w w' := by
  obtain ⟨c0, c1, c2, c3, c4⟩ := row_five hg
  clear hg
  have d1 : decide (L < 1) = false := decF h1
  have d2 : decide (L > 4096) = false := decF h2
  have d3 : decide ((B.size : Int) > L) = false := decF h3
  have d4 : decide (N ≥ 0) = true := decT h4
  have d5 : decide (N ≤ (B.size : Int)) = false := decF h5
  go_enter Try.func85, Try.ntmps85
  go_wp2
  go_quiet (fail)
  go_wp2
  go_quiet (fail)
  go_wp2
  go_ret
  exact ⟨rfl, below_drewN (below_drewN (Below.refl _ _) _) _⟩

set_option maxRecDepth 100000 in
set_option maxHeartbeats 1000000 in
theorem isOK_f (g : Nat) (L : Int) (B : ByteArray) (C : Bool) (S N : Int) (w : World) (hg : w.heap[g]? = some (.cells #[.int .i64 L, .string B, .bool C, .int .i64 S, .int .i64 N] 60 (0, 0))) (h1 : ¬L < 1) (h2 : ¬L > 4096) (h3 : ¬(B.size : Int) > L) (h4 : N ≥ 0) (h5 : N ≤ (B.size : Int)) (h6 : ¬S ≥ 0) :
    Calls Try.prog 85 #[.pointer (some ⟨g, 0, none⟩)] w fun e w' => e = .returned (.bool false) ∧ Below w.heap.size w w' := by
  obtain ⟨c0, c1, c2, c3, c4⟩ := row_five hg
  clear hg
  have d1 : decide (L < 1) = false := decF h1
  have d2 : decide (L > 4096) = false := decF h2
  have d3 : decide ((B.size : Int) > L) = false := decF h3
  have d4 : decide (N ≥ 0) = true := decT h4
  have d5 : decide (N ≤ (B.size : Int)) = true := decT h5
  have d6 : decide (S ≥ 0) = false := decF h6
  go_enter Try.func85, Try.ntmps85
  go_wp2
  go_quiet (fail)
  go_wp2
  go_quiet (fail)
  go_wp2
  go_ret
  exact ⟨rfl, below_drewN (below_drewN (Below.refl _ _) _) _⟩

set_option maxRecDepth 100000 in
set_option maxHeartbeats 1000000 in
theorem isOK_g (g : Nat) (L : Int) (B : ByteArray) (C : Bool) (S N : Int) (w : World) (hg : w.heap[g]? = some (.cells #[.int .i64 L, .string B, .bool C, .int .i64 S, .int .i64 N] 60 (0, 0))) (h1 : ¬L < 1) (h2 : ¬L > 4096) (h3 : ¬(B.size : Int) > L) (h4 : N ≥ 0) (h5 : N ≤ (B.size : Int)) (h6 : S ≥ 0) (h7 : ¬S < 4000) :
    Calls Try.prog 85 #[.pointer (some ⟨g, 0, none⟩)] w fun e w' => e = .returned (.bool false) ∧ Below w.heap.size w w' := by
  obtain ⟨c0, c1, c2, c3, c4⟩ := row_five hg
  clear hg
  have d1 : decide (L < 1) = false := decF h1
  have d2 : decide (L > 4096) = false := decF h2
  have d3 : decide ((B.size : Int) > L) = false := decF h3
  have d4 : decide (N ≥ 0) = true := decT h4
  have d5 : decide (N ≤ (B.size : Int)) = true := decT h5
  have d6 : decide (S ≥ 0) = true := decT h6
  have d7 : decide (S < 4000) = false := decF h7
  go_enter Try.func85, Try.ntmps85
  go_wp2
  go_quiet (fail)
  go_wp2
  go_quiet (fail)
  go_wp2
  go_ret
  exact ⟨rfl, below_drewN (below_drewN (Below.refl _ _) _) _⟩

set_option maxRecDepth 100000 in
set_option maxHeartbeats 1000000 in
theorem isOK_h (g : Nat) (L : Int) (B : ByteArray) (C : Bool) (S N : Int) (w : World) (hg : w.heap[g]? = some (.cells #[.int .i64 L, .string B, .bool C, .int .i64 S, .int .i64 N] 60 (0, 0))) (h1 : ¬L < 1) (h2 : ¬L > 4096) (h3 : ¬(B.size : Int) > L) (h4 : N ≥ 0) (h5 : N ≤ (B.size : Int)) (h6 : S ≥ 0) (h7 : S < 4000) :
    Calls Try.prog 85 #[.pointer (some ⟨g, 0, none⟩)] w fun e w' => e = .returned (.bool true) ∧ Below w.heap.size w w' := by
  obtain ⟨c0, c1, c2, c3, c4⟩ := row_five hg
  clear hg
  have d1 : decide (L < 1) = false := decF h1
  have d2 : decide (L > 4096) = false := decF h2
  have d3 : decide ((B.size : Int) > L) = false := decF h3
  have d4 : decide (N ≥ 0) = true := decT h4
  have d5 : decide (N ≤ (B.size : Int)) = true := decT h5
  have d6 : decide (S ≥ 0) = true := decT h6
  have d7 : decide (S < 4000) = true := decT h7
  go_enter Try.func85, Try.ntmps85
  go_wp2
  go_quiet (fail)
  go_wp2
  go_quiet (fail)
  go_wp2
  go_ret
  exact ⟨rfl, below_drewN (below_drewN (Below.refl _ _) _) _⟩

theorem isOK_ok (g : Nat) (s : SessD) (w : World) (hg : w.heap[g]? = some (.cells #[.int .i64 s.L, .string s.B, .bool s.C, .int .i64 s.S, .int .i64 s.N] 60 (0, 0))) :
    Calls Try.prog 85 #[.pointer (some ⟨g, 0, none⟩)] w fun e w' => e = .returned (.bool (sessB s)) ∧ Below w.heap.size w w' := by
  obtain ⟨L, B, C, S, N⟩ := s
  have no : ∀ b : Bool, (sessB ⟨L, B, C, S, N⟩ = b) → ∀ {Q : Ending → World → Prop}, (Q = fun e w' => e = .returned (.bool b) ∧ Below w.heap.size w w') → Q = fun e w' => e = .returned (.bool (sessB ⟨L, B, C, S, N⟩)) ∧ Below w.heap.size w w' := fun b h Q hq => by rw [h, hq]
  by_cases h1 : L < 1
  · rw [← no false (by simp [sessB, btw]; omega) rfl]; exact isOK_a g L B C S N w hg h1
  by_cases h2 : L > 4096
  · rw [← no false (by simp [sessB, btw]; omega) rfl]; exact isOK_b g L B C S N w hg h1 h2
  by_cases h3 : (B.size : Int) > L
  · rw [← no false (by simp [sessB, btw]; omega) rfl]; exact isOK_c g L B C S N w hg h1 h2 h3
  by_cases h4 : N ≥ 0
  case neg => rw [← no false (by simp [sessB, btw]; omega) rfl]; exact isOK_d g L B C S N w hg h1 h2 h3 h4
  by_cases h5 : N ≤ (B.size : Int)
  case neg => rw [← no false (by simp [sessB, btw]; omega) rfl]; exact isOK_e g L B C S N w hg h1 h2 h3 h4 h5
  by_cases h6 : S ≥ 0
  case neg => rw [← no false (by simp [sessB, btw]; omega) rfl]; exact isOK_f g L B C S N w hg h1 h2 h3 h4 h5 h6
  by_cases h7 : S < 4000
  case neg => rw [← no false (by simp [sessB, btw]; omega) rfl]; exact isOK_g g L B C S N w hg h1 h2 h3 h4 h5 h6 h7
  rw [← no true (by simp [sessB, btw]; omega) rfl]; exact isOK_h g L B C S N w hg h1 h2 h3 h4 h5 h6 h7
end Go.Proofs.Ytplhghhfdabccaa
