import Derived.Test.YtplhghhfdabccaaSessK
namespace Go.Proofs.Ytplhghhfdabccaa
open Go.RowKit
attribute [local go_sem ↓] Go.wp_at_zero Go.wp_at_succ

theorem Duo.drewN {w W : World} {t0 t1 : TypeId} {C0 C1 : Array Value} (h : Duo w t0 t1 C0 C1 W) (n : Nat) : Duo w t0 t1 C0 C1 (W.drewN n) := h.call (below_drewN (Below.refl _ _) n)
theorem Duo.set0 {w W : World} {t0 t1 : TypeId} {C0 C1 : Array Value} (h : Duo w t0 t1 C0 C1 W) (i : Nat) (v : Value) : Duo w t0 t1 (C0.setIfInBounds i v) C1 (W.setCell ⟨w.heap.size, i, none⟩ v) := by
  refine ⟨h.below.setCell (by exact Nat.le_refl _) _, by simpa [World.setCell] using h.size, ?_, ?_⟩
  · rw [heap_setCell_same _ _ i _ _ _ h.r0]
  · rw [heap_setCell_other _ _ _ _ (by simp)]
    exact h.r1

theorem Duo.set1 {w W : World} {t0 t1 : TypeId} {C0 C1 : Array Value} (h : Duo w t0 t1 C0 C1 W) (i : Nat) (v : Value) : Duo w t0 t1 C0 (C1.setIfInBounds i v) (W.setCell ⟨w.heap.size + 1, i, none⟩ v) := by
  refine ⟨h.below.setCell (by simp) _, by simpa [World.setCell] using h.size, ?_, ?_⟩
  · rw [heap_setCell_other _ _ _ _ (by simp)]
    exact h.r0
  · rw [heap_setCell_same _ _ i _ _ _ h.r1]

set_option maxRecDepth 100000 in
set_option maxHeartbeats 1000000 in
theorem finishP_ok (g : Nat) (L : Int) (B : ByteArray) (C : Bool) (S N : Int) (w : World) (hg : w.heap[g]? = some (.cells #[.int .i64 L, .string B, .bool C, .int .i64 S, .int .i64 N] 60 (0, 0))) :
    Calls Try.prog 88 #[.pointer (some ⟨g, 0, none⟩)] w fun e w' => e = .returned (.tuple #[]) ∧ w' = w.setCell ⟨g, 2, none⟩ (.bool true) := by
  obtain ⟨c0, c1, c2, c3, c4⟩ := row_five hg
  have f2 := frozen_of_row _ _ 2 _ _ hg
  clear hg
  go_enter Try.func88, Try.ntmps88
  go_wp2
  go_end0
  exact ⟨rfl, rfl⟩

set_option maxRecDepth 100000 in
set_option maxHeartbeats 1000000 in
theorem feedP_shut (g : Nat) (L : Int) (B : ByteArray) (S N : Int) (ch : ByteArray) (w : World) (hg : w.heap[g]? = some (.cells #[.int .i64 L, .string B, .bool true, .int .i64 S, .int .i64 N] 60 (0, 0))) :
    Calls Try.prog 87 #[.pointer (some ⟨g, 0, none⟩), .string ch] w fun e w' => e = .returned (.int .i64 2) ∧ Below w.heap.size w w' := by
  obtain ⟨c0, c1, c2, c3, c4⟩ := row_five hg
  clear hg
  go_enter Try.func87, Try.ntmps87
  go_wp2
  go_ret
  exact ⟨rfl, Below.refl _ _⟩

set_option maxRecDepth 100000 in
set_option maxHeartbeats 1000000 in
theorem feedP_full (g : Nat) (L : Int) (B : ByteArray) (S N : Int) (ch : ByteArray) (w : World) (hg : w.heap[g]? = some (.cells #[.int .i64 L, .string B, .bool false, .int .i64 S, .int .i64 N] 60 (0, 0))) (hch : ch.size ≤ 1048576) (hB : B.size ≤ 1048576) (hL : L < (B.size : Int) + ch.size) :
    Calls Try.prog 87 #[.pointer (some ⟨g, 0, none⟩), .string ch] w fun e w' => e = .returned (.int .i64 3) ∧ Below w.heap.size w w' := by
  obtain ⟨c0, c1, c2, c3, c4⟩ := row_five hg
  clear hg
  have d1 : decide ((B.size : Int) + ch.size > L) = true := decT hL
  go_enter Try.func87, Try.ntmps87
  go_wp2
  go_quiet (fail)
  go_wp2
  go_ret
  exact ⟨rfl, below_drewN (Below.refl _ _) _⟩

set_option maxRecDepth 100000 in
set_option maxHeartbeats 1000000 in
theorem feedP_fits (g : Nat) (L : Int) (B : ByteArray) (S N : Int) (ch : ByteArray) (w : World) (hg : w.heap[g]? = some (.cells #[.int .i64 L, .string B, .bool false, .int .i64 S, .int .i64 N] 60 (0, 0))) (hch : ch.size ≤ 1048576) (hB : B.size ≤ 1048576) (hL : ¬L < (B.size : Int) + ch.size) :
    Calls Try.prog 87 #[.pointer (some ⟨g, 0, none⟩), .string ch] w fun e w' => e = .returned (.int .i64 0) ∧ ∃ n, w' = (w.drewN n).setCell ⟨g, 1, none⟩ (.string (B ++ ch)) := by
  obtain ⟨c0, c1, c2, c3, c4⟩ := row_five hg
  have f1 := frozen_of_row _ _ 1 _ _ hg
  clear hg
  have d1 : decide ((B.size : Int) + ch.size > L) = false := decF hL
  go_enter Try.func87, Try.ntmps87
  go_wp2
  go_quiet (fail)
  go_wp2
  go_ret
  exact ⟨rfl, _, rfl⟩
end Go.Proofs.Ytplhghhfdabccaa
