import Derived.Test.YtplhghhfdabccaaSess
namespace Go.Proofs.Ytplhghhfdabccaa
open Go.RowKit
attribute [local go_sem ↓] Go.wp_at_zero Go.wp_at_succ

/-- Two blocks of a call's own. -/
structure Duo (w : World) (t0 t1 : TypeId) (C0 C1 : Array Value) (W : World) : Prop where
  below : Below w.heap.size w W
  size : w.heap.size + 1 + 1 ≤ W.heap.size
  r0 : W.heap[w.heap.size]? = some (.cells C0 t0 (0, 0))
  r1 : W.heap[w.heap.size + 1]? = some (.cells C1 t1 (0, 0))
theorem Duo.new (w : World) (t0 t1 : TypeId) (C0 C1 : Array Value) : Duo w t0 t1 C0 C1 ((w.alloc (.cells C0 t0)).alloc (.cells C1 t1)) :=
  ⟨((Below.refl _ _).alloc (Nat.le_refl _) _).alloc (by simp) _, by simp, by rw [heap_alloc2_old], by rw [heap_alloc2_new]⟩
theorem Duo.call {w W W' : World} {t0 t1 : TypeId} {C0 C1 : Array Value} (h : Duo w t0 t1 C0 C1 W) (hb : Below W.heap.size W W') : Duo w t0 t1 C0 C1 W' := by
  have hz := h.size
  exact ⟨below_step h.below h.below.size hb, Nat.le_trans hz hb.size, (hb.block _ (by omega)).trans h.r0, (hb.block _ (by omega)).trans h.r1⟩
theorem Duo.cells {w W : World} {t0 t1 : TypeId} {C0 C1 : Array Value} (h : Duo w t0 t1 C0 C1 W) : (∀ o, W.cell? ⟨w.heap.size, o, none⟩ = C0[o]?) ∧ (∀ o, W.cell? ⟨w.heap.size + 1, o, none⟩ = C1[o]?) ∧
    (∀ o, W.frozen? ⟨w.heap.size, o, none⟩ = false) ∧ (∀ o, W.frozen? ⟨w.heap.size + 1, o, none⟩ = false) :=
  ⟨fun _ => cell_of_row _ _ _ _ _ _ h.r0, fun _ => cell_of_row _ _ _ _ _ _ h.r1, fun _ => frozen_of_row _ _ _ _ _ h.r0, fun _ => frozen_of_row _ _ _ _ _ h.r1⟩

theorem below_set5 {B g : Nat} {w W : World} (h : Below B w W) (hg : B ≤ g) (v0 v1 v2 v3 v4 : Value) :
    Below B w (((((W.setCell ⟨g, 0, none⟩ v0).setCell ⟨g, 1, none⟩ v1).setCell ⟨g, 2, none⟩ v2).setCell ⟨g, 3, none⟩ v3).setCell ⟨g, 4, none⟩ v4) :=
  ((((h.setCell (by exact hg) _).setCell (by exact hg) _).setCell (by exact hg) _).setCell (by exact hg) _).setCell (by exact hg) _

theorem below_set6 {B g h o : Nat} {w W : World} (hb : Below B w W) (hh : B ≤ h) (hg : B ≤ g) (v v0 v1 v2 v3 v4 : Value) :
    Below B w ((((((W.setCell ⟨h, o, none⟩ v).setCell ⟨g, 0, none⟩ v0).setCell ⟨g, 1, none⟩ v1).setCell ⟨g, 2, none⟩ v2).setCell ⟨g, 3, none⟩ v3).setCell ⟨g, 4, none⟩ v4) :=
  below_set5 (hb.setCell (by exact hh) _) hg _ _ _ _ _

set_option maxRecDepth 100000 in
set_option maxHeartbeats 1000000 in
theorem specFinish_ok (s : SessD) (w : World) :
    Calls Try.prog 46 #[.agg #[.int .i64 s.L, .string s.B, .bool s.C, .int .i64 s.S, .int .i64 s.N]] w fun e w' => e = .returned (.agg #[.int .i64 (finishF s).L, .string (finishF s).B, .bool (finishF s).C, .int .i64 (finishF s).S, .int .i64 (finishF s).N]) ∧ Below w.heap.size w w' := by
  have T := Duo.new w 60 60 #[.int .i64 s.L, .string s.B, .bool s.C, .int .i64 s.S, .int .i64 s.N] #[.int .i64 0, .string ⟨#[]⟩, .bool false, .int .i64 0, .int .i64 0]
  cases h : sessB s
  · have H : finishF s = .zero := by simp [finishF, h]
    rw [H]
    clear H
    simp only [SessD.zero]
    go_enter Try.func46, Try.ntmps46
    go_wp2_with fail
    refine (l4SessionOK_ok s _).mono ?_
    rintro e w1 ⟨rfl, hb1⟩
    replace T := T.call hb1
    clear hb1
    obtain ⟨c0, c1, f0, f1⟩ := T.cells
    go_wp2
    exact bodyPost_ret (v := .agg #[.int .i64 0, .string ⟨#[]⟩, .bool false, .int .i64 0, .int .i64 0]) (by simp [results, Try.results46, go_sem, c1]) rfl ⟨rfl, below_set5 T.below (by omega) _ _ _ _ _⟩
  · have H : finishF s = ⟨s.L, s.B, true, s.S, s.N⟩ := by simp [finishF, h]
    rw [H]
    clear H
    dsimp only
    go_enter Try.func46, Try.ntmps46
    go_wp2_with fail
    refine (l4SessionOK_ok s _).mono ?_
    rintro e w1 ⟨rfl, hb1⟩
    replace T := T.call hb1
    clear hb1
    obtain ⟨c0, c1, f0, f1⟩ := T.cells
    go_wp2
    exact bodyPost_ret (v := .agg #[.int .i64 s.L, .string s.B, .bool true, .int .i64 s.S, .int .i64 s.N]) (by simp [results, Try.results46, go_sem, c1]) rfl ⟨rfl, below_set6 T.below (Nat.le_refl _) (by omega) _ _ _ _ _ _⟩

set_option maxRecDepth 100000 in
set_option maxHeartbeats 1000000 in
theorem specFeed_bad (L : Int) (B : ByteArray) (C : Bool) (S N : Int) (ch : ByteArray) (w : World) (_ : ch.size ≤ 1048576) (_ : B.size ≤ 1048576) (h : sessB ⟨L, B, C, S, N⟩ = false) :
    Calls Try.prog 43 #[.agg #[.int .i64 L, .string B, .bool C, .int .i64 S, .int .i64 N], .string ch] w fun e w' => e = .returned (.tuple #[.agg #[.int .i64 0, .string ⟨#[]⟩, .bool false, .int .i64 0, .int .i64 0], .int .i64 1]) ∧ Below w.heap.size w w' := by
  have T := Duo.new w 60 60 #[.int .i64 L, .string B, .bool C, .int .i64 S, .int .i64 N] #[.int .i64 0, .string ⟨#[]⟩, .bool false, .int .i64 0, .int .i64 0]
  go_enter Try.func43, Try.ntmps43
  go_wp2_with fail
  refine (l4SessionOK_ok ⟨L, B, C, S, N⟩ _).mono ?_
  rintro e w1 ⟨rfl, hb1⟩
  replace T := T.call hb1
  clear hb1
  obtain ⟨c0, c1, f0, f1⟩ := T.cells
  go_wp2
  exact bodyPost_ret (v := .tuple #[.agg #[.int .i64 0, .string ⟨#[]⟩, .bool false, .int .i64 0, .int .i64 0], .int .i64 1]) (by simp [results, Try.results43, go_sem, c1]) rfl ⟨rfl, below_set5 T.below (by omega) _ _ _ _ _⟩

set_option maxRecDepth 100000 in
set_option maxHeartbeats 1000000 in
theorem specFeed_shut (L : Int) (B : ByteArray) (S N : Int) (ch : ByteArray) (w : World) (_ : ch.size ≤ 1048576) (_ : B.size ≤ 1048576) (h : sessB ⟨L, B, true, S, N⟩ = true) :
    Calls Try.prog 43 #[.agg #[.int .i64 L, .string B, .bool true, .int .i64 S, .int .i64 N], .string ch] w fun e w' => e = .returned (.tuple #[.agg #[.int .i64 L, .string B, .bool true, .int .i64 S, .int .i64 N], .int .i64 2]) ∧ Below w.heap.size w w' := by
  have T := Duo.new w 60 60 #[.int .i64 L, .string B, .bool true, .int .i64 S, .int .i64 N] #[.int .i64 0, .string ⟨#[]⟩, .bool false, .int .i64 0, .int .i64 0]
  go_enter Try.func43, Try.ntmps43
  go_wp2_with fail
  refine (l4SessionOK_ok ⟨L, B, true, S, N⟩ _).mono ?_
  rintro e w1 ⟨rfl, hb1⟩
  replace T := T.call hb1
  clear hb1
  obtain ⟨c0, c1, f0, f1⟩ := T.cells
  go_wp2
  exact bodyPost_ret (v := .tuple #[.agg #[.int .i64 L, .string B, .bool true, .int .i64 S, .int .i64 N], .int .i64 2]) (by simp [results, Try.results43, go_sem, c1]) rfl ⟨rfl, below_set5 T.below (by omega) _ _ _ _ _⟩

set_option maxRecDepth 100000 in
set_option maxHeartbeats 1000000 in
theorem specFeed_full (L : Int) (B : ByteArray) (S N : Int) (ch : ByteArray) (w : World) (hch : ch.size ≤ 1048576) (hB : B.size ≤ 1048576) (h : sessB ⟨L, B, false, S, N⟩ = true) (hL : L < (B.size : Int) + ch.size) :
    Calls Try.prog 43 #[.agg #[.int .i64 L, .string B, .bool false, .int .i64 S, .int .i64 N], .string ch] w fun e w' => e = .returned (.tuple #[.agg #[.int .i64 L, .string B, .bool false, .int .i64 S, .int .i64 N], .int .i64 3]) ∧ Below w.heap.size w w' := by
  have T := Duo.new w 60 60 #[.int .i64 L, .string B, .bool false, .int .i64 S, .int .i64 N] #[.int .i64 0, .string ⟨#[]⟩, .bool false, .int .i64 0, .int .i64 0]
  go_enter Try.func43, Try.ntmps43
  go_wp2_with fail
  refine (l4SessionOK_ok ⟨L, B, false, S, N⟩ _).mono ?_
  rintro e w1 ⟨rfl, hb1⟩
  replace T := T.call hb1
  clear hb1
  obtain ⟨c0, c1, f0, f1⟩ := T.cells
  go_wp2
  exact bodyPost_ret (v := .tuple #[.agg #[.int .i64 L, .string B, .bool false, .int .i64 S, .int .i64 N], .int .i64 3]) (by simp [results, Try.results43, go_sem, c1]) rfl ⟨rfl, below_set5 T.below (by omega) _ _ _ _ _⟩

set_option maxRecDepth 100000 in
set_option maxHeartbeats 1000000 in
theorem specFeed_fits (L : Int) (B : ByteArray) (S N : Int) (ch : ByteArray) (w : World) (hch : ch.size ≤ 1048576) (hB : B.size ≤ 1048576) (h : sessB ⟨L, B, false, S, N⟩ = true) (hL : ¬L < (B.size : Int) + ch.size) :
    Calls Try.prog 43 #[.agg #[.int .i64 L, .string B, .bool false, .int .i64 S, .int .i64 N], .string ch] w fun e w' => e = .returned (.tuple #[.agg #[.int .i64 L, .string (B ++ ch), .bool false, .int .i64 S, .int .i64 N], .int .i64 0]) ∧ Below w.heap.size w w' := by
  have T := Duo.new w 60 60 #[.int .i64 L, .string B, .bool false, .int .i64 S, .int .i64 N] #[.int .i64 0, .string ⟨#[]⟩, .bool false, .int .i64 0, .int .i64 0]
  go_enter Try.func43, Try.ntmps43
  go_wp2_with fail
  refine (l4SessionOK_ok ⟨L, B, false, S, N⟩ _).mono ?_
  rintro e w1 ⟨rfl, hb1⟩
  replace T := T.call hb1
  clear hb1
  obtain ⟨c0, c1, f0, f1⟩ := T.cells
  go_wp2
  exact bodyPost_ret (v := .tuple #[.agg #[.int .i64 L, .string (B ++ ch), .bool false, .int .i64 S, .int .i64 N], .int .i64 0]) (by simp [results, Try.results43, go_sem, c1]) rfl ⟨rfl, below_set6 T.below (Nat.le_refl _) (by omega) _ _ _ _ _ _⟩

theorem specFeed_ok (s : SessD) (ch : ByteArray) (w : World) (hch : ch.size ≤ 1048576) (hB : s.B.size ≤ 1048576) :
    Calls Try.prog 43 #[.agg #[.int .i64 s.L, .string s.B, .bool s.C, .int .i64 s.S, .int .i64 s.N], .string ch] w fun e w' => e = .returned (.tuple #[.agg #[.int .i64 (feedF s ch).L, .string (feedF s ch).B, .bool (feedF s ch).C, .int .i64 (feedF s ch).S, .int .i64 (feedF s ch).N], .int .i64 (feedC s ch)]) ∧ Below w.heap.size w w' := by
  obtain ⟨L, B, C, S, N⟩ := s
  cases h : sessB ⟨L, B, C, S, N⟩
  · simp only [feedF, feedC, h, SessD.zero, Bool.false_eq_true, if_false]
    exact specFeed_bad L B C S N ch w hch hB h
  cases C
  case true =>
    simp only [feedF, feedC, h, if_true]
    exact specFeed_shut L B S N ch w hch hB h
  by_cases hL : L < (B.size : Int) + ch.size
  · simp only [feedF, feedC, h, hL, if_true, Bool.false_eq_true, if_false]
    exact specFeed_full L B S N ch w hch hB h hL
  · simp only [feedF, feedC, h, hL, if_true, Bool.false_eq_true, if_false]
    exact specFeed_fits L B S N ch w hch hB h hL
end Go.Proofs.Ytplhghhfdabccaa
