import Derived.Test.YtplhghhfdabccaaBtw
import Derived.Deep.RegionHeld3
import Derived.Deep.DrawnRows
import Derived.Deep.QuietTactic
import Derived.BigQuiet
namespace Go.Proofs.Ytplhghhfdabccaa
open Go.RowKit
attribute [local go_sem ↓] Go.wp_at_zero Go.wp_at_succ

/- SESSIONS: five cells. -/
structure SessD where
  L : Int
  B : ByteArray
  C : Bool
  S : Int
  N : Int
def SessD.zero : SessD := ⟨0, ⟨#[]⟩, false, 0, 0⟩
def sessB (s : SessD) : Bool := btw s.L 1 4096 && decide ((s.B.size : Int) ≤ s.L) && btw s.N 0 s.B.size && btw s.S 0 3999
def openF (L : Int) : SessD := if btw L 1 4096 then ⟨L, ⟨#[]⟩, false, 0, 0⟩ else .zero
def finishF (s : SessD) : SessD := if sessB s then ⟨s.L, s.B, true, s.S, s.N⟩ else .zero
def feedF (s : SessD) (c : ByteArray) : SessD := if sessB s then (if s.C then s else if s.L < (s.B.size : Int) + c.size then s else ⟨s.L, s.B ++ c, s.C, s.S, s.N⟩) else .zero
def feedC (s : SessD) (c : ByteArray) : Int := if sessB s then (if s.C then 2 else if s.L < (s.B.size : Int) + c.size then 3 else 0) else 1

set_option maxHeartbeats 400000 in
theorem szSession_ok (s : SessD) (left : Int) (w : World) (h0 : 0 ≤ left) (h1 : left ≤ 1048576) (hB : s.B.size ≤ 9223372036854775807) :
    Calls Try.prog 42 #[.agg #[.int .i64 s.L, .string s.B, .bool s.C, .int .i64 s.S, .int .i64 s.N], .int .i64 left] w fun e w' => e = .returned (.int .i64 (if left - s.B.size < 0 then -1 else left - s.B.size)) ∧ Below w.heap.size w w' := by
  by_cases h : left - s.B.size < 0
  · rw [if_pos h]
    go_enter Try.func42, Try.ntmps42
    go_wp2
    go_ret
    exact ⟨rfl, (Below.refl _ _).alloc (Nat.le_refl _) _⟩
  · rw [if_neg h]
    go_enter Try.func42, Try.ntmps42
    go_wp2
    go_ret
    exact ⟨rfl, (Below.refl _ _).alloc (Nat.le_refl _) _⟩

set_option maxHeartbeats 400000 in
theorem toSession_ok (s : SessD) (w : World) :
    Calls Try.prog 44 #[.agg #[.int .i64 s.L, .string s.B, .bool s.C, .int .i64 s.S, .int .i64 s.N]] w fun e w' => e = .returned (.agg #[.int .i64 s.L, .string s.B, .bool s.C, .int .i64 s.S, .int .i64 s.N]) ∧ Below w.heap.size w w' := by
  go_enter Try.func44, Try.ntmps44
  go_wp2
  exact bodyPost_ret (v := .agg #[.int .i64 s.L, .string s.B, .bool s.C, .int .i64 s.S, .int .i64 s.N]) (by simp [results, Try.results44, go_sem]) rfl ⟨rfl, (((Below.refl _ _).alloc (Nat.le_refl _) _).alloc (by simp) _).alloc (by simp; omega) _⟩

set_option maxHeartbeats 400000 in
theorem eqSession_ok (s : SessD) (w : World) :
    Calls Try.prog 41 #[.agg #[.int .i64 s.L, .string s.B, .bool s.C, .int .i64 s.S, .int .i64 s.N], .agg #[.int .i64 s.L, .string s.B, .bool s.C, .int .i64 s.S, .int .i64 s.N]] w fun e w' => e = .returned (.bool true) ∧ Below w.heap.size w w' := by
  obtain ⟨L, B, C, S, N⟩ := s
  dsimp only
  have e1 : (L != L) = false := by simp
  have e3 : (C != C) = false := by simp
  have e4 : (S != S) = false := by simp
  have e5 : (N != N) = false := by simp
  go_enter Try.func41, Try.ntmps41
  go_wp2
  go_ret
  exact ⟨rfl, ((Below.refl _ _).alloc (Nat.le_refl _) _).alloc (by simp) _⟩

set_option maxHeartbeats 400000 in
theorem l4SessionOK_ok (s : SessD) (w : World) :
    Calls Try.prog 86 #[.agg #[.int .i64 s.L, .string s.B, .bool s.C, .int .i64 s.S, .int .i64 s.N]] w fun e w' => e = .returned (.bool (sessB s)) ∧ Below w.heap.size w w' := by
  cases h1 : btw s.L 1 4096
  · have H : Hid (sessB s = false) := by show _ = _; simp [sessB, h1]
    go_enter Try.func86, Try.ntmps86
    go_wp2_with (go_at_call 54; refine (between_ok _ _ _ _).mono ?_; rintro e w' ⟨rfl, rfl⟩)
    go_ret
    exact ⟨ret_bool H.out.symm, (Below.refl _ _).alloc (Nat.le_refl _) _⟩
  by_cases h2 : (s.B.size : Int) ≤ s.L
  case neg =>
    have H : Hid (sessB s = false) := by show _ = _; simp [sessB, h2]
    go_enter Try.func86, Try.ntmps86
    go_wp2_with (go_at_call 54; refine (between_ok _ _ _ _).mono ?_; rintro e w' ⟨rfl, rfl⟩)
    go_ret
    exact ⟨ret_bool H.out.symm, (Below.refl _ _).alloc (Nat.le_refl _) _⟩
  cases h3 : btw s.N 0 s.B.size
  · have H : Hid (sessB s = false) := by show _ = _; simp [sessB, h3]
    go_enter Try.func86, Try.ntmps86
    go_wp2_with (go_at_call 54; refine (between_ok _ _ _ _).mono ?_; rintro e w' ⟨rfl, rfl⟩)
    go_ret
    exact ⟨ret_bool H.out.symm, (Below.refl _ _).alloc (Nat.le_refl _) _⟩
  have H : Hid (sessB s = btw s.S 0 3999) := by show _ = _; simp [sessB, h1, h2, h3]
  go_enter Try.func86, Try.ntmps86
  go_wp2_with (go_at_call 54; refine (between_ok _ _ _ _).mono ?_; rintro e w' ⟨rfl, rfl⟩)
  go_ret
  exact ⟨ret_bool H.out.symm, (Below.refl _ _).alloc (Nat.le_refl _) _⟩

set_option maxHeartbeats 400000 in
theorem specOpen_ok (L : Int) (w : World) :
    Calls Try.prog 39 #[.int .i64 L] w fun e w' => e = .returned (.agg #[.int .i64 (openF L).L, .string (openF L).B, .bool (openF L).C, .int .i64 (openF L).S, .int .i64 (openF L).N]) ∧ Below w.heap.size w w' := by
  cases h : btw L 1 4096
  · have H : openF L = .zero := by simp [openF, h]
    rw [H]
    simp only [SessD.zero]
    clear H
    go_enter Try.func39, Try.ntmps39
    go_wp2_with (go_at_call 54; refine (between_ok _ _ _ _).mono ?_; rintro e w' ⟨rfl, rfl⟩)
    exact bodyPost_ret (v := .agg #[.int .i64 0, .string ⟨#[]⟩, .bool false, .int .i64 0, .int .i64 0]) (by simp [results, Try.results39, go_sem]) rfl ⟨rfl, (Below.refl _ _).alloc (Nat.le_refl _) _⟩
  · have H : openF L = ⟨L, ⟨#[]⟩, false, 0, 0⟩ := by simp [openF, h]
    rw [H]
    dsimp only
    clear H
    go_enter Try.func39, Try.ntmps39
    go_wp2_with (go_at_call 54; refine (between_ok _ _ _ _).mono ?_; rintro e w' ⟨rfl, rfl⟩)
    exact bodyPost_ret (v := .agg #[.int .i64 L, .string ⟨#[]⟩, .bool false, .int .i64 0, .int .i64 0]) (by simp [results, Try.results39, go_sem]) rfl ⟨rfl, (Below.refl _ _).alloc (Nat.le_refl _) _⟩
end Go.Proofs.Ytplhghhfdabccaa
