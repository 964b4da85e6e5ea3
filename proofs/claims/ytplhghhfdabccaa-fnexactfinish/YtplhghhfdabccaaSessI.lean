import Derived.Test.YtplhghhfdabccaaSessP
namespace Go.Proofs.Ytplhghhfdabccaa
open Go.RowKit
attribute [local go_sem ↓] Go.wp_at_zero Go.wp_at_succ

set_option maxRecDepth 100000 in
set_option maxHeartbeats 1000000 in
theorem implOpen_ok (L : Int) (w : World) :
    Calls Try.prog 40 #[.int .i64 L] w fun e w' => e = .returned (.agg #[.int .i64 (openF L).L, .string (openF L).B, .bool (openF L).C, .int .i64 (openF L).S, .int .i64 (openF L).N]) ∧ Below w.heap.size w w' := by
  have T := Duo.new w 60 60 #[.int .i64 0, .string ⟨#[]⟩, .bool false, .int .i64 0, .int .i64 0] #[.int .i64 L, .string ⟨#[]⟩, .bool false, .int .i64 0, .int .i64 0]
  cases h : btw L 1 4096
  · have H : openF L = .zero := by simp [openF, h]
    have hs : sessB ⟨L, ⟨#[]⟩, false, 0, 0⟩ = false := by simp [sessB, h]
    rw [H]
    simp only [SessD.zero]
    clear H
    go_enter Try.func40, Try.ntmps40
    go_wp2_with fail
    refine (isOK_ok _ ⟨L, ⟨#[]⟩, false, 0, 0⟩ _ T.r1).mono ?_
    rintro e w1 ⟨rfl, hb1⟩
    replace T := T.call hb1
    clear hb1
    obtain ⟨c0, c1, f0, f1⟩ := T.cells
    go_wp2
    exact bodyPost_ret (v := .agg #[.int .i64 0, .string ⟨#[]⟩, .bool false, .int .i64 0, .int .i64 0]) (by simp [results, Try.results40, go_sem, c0]) rfl ⟨rfl, below_set5 T.below (by omega) _ _ _ _ _⟩
  · have H : openF L = ⟨L, ⟨#[]⟩, false, 0, 0⟩ := by simp [openF, h]
    have hs : sessB ⟨L, ⟨#[]⟩, false, 0, 0⟩ = true := by
      have h' := h
      simp [btw] at h'
      have hz : (⟨#[]⟩ : ByteArray).size = 0 := rfl
      simp [sessB, btw, hz]
      omega
    rw [H]
    dsimp only
    clear H
    go_enter Try.func40, Try.ntmps40
    go_wp2_with fail
    refine (isOK_ok _ ⟨L, ⟨#[]⟩, false, 0, 0⟩ _ T.r1).mono ?_
    rintro e w1 ⟨rfl, hb1⟩
    replace T := T.call hb1
    clear hb1
    obtain ⟨c0, c1, f0, f1⟩ := T.cells
    go_wp2
    exact bodyPost_ret (v := .agg #[.int .i64 L, .string ⟨#[]⟩, .bool false, .int .i64 0, .int .i64 0]) (by simp [results, Try.results40, go_sem, c0]) rfl ⟨rfl, below_set5 T.below (by omega) _ _ _ _ _⟩

set_option maxRecDepth 100000 in
set_option maxHeartbeats 1000000 in
theorem implFinish_ok (s : SessD) (w : World) (_ : s.B.size ≤ 1048576) :
    Calls Try.prog 47 #[.agg #[.int .i64 s.L, .string s.B, .bool s.C, .int .i64 s.S, .int .i64 s.N]] w fun e w' => e = .returned (.agg #[.int .i64 (finishF s).L, .string (finishF s).B, .bool (finishF s).C, .int .i64 (finishF s).S, .int .i64 (finishF s).N]) ∧ Below w.heap.size w w' := by
  have T := Duo.new w 60 60 #[.int .i64 s.L, .string s.B, .bool s.C, .int .i64 s.S, .int .i64 s.N] #[.int .i64 0, .string ⟨#[]⟩, .bool false, .int .i64 0, .int .i64 0]
  cases h : sessB s
  · have H : finishF s = .zero := by simp [finishF, h]
    rw [H]
    clear H
    simp only [SessD.zero]
    go_enter Try.func47, Try.ntmps47
    go_wp2_with fail
    refine (isOK_ok _ s _ T.r0).mono ?_
    rintro e w1 ⟨rfl, hb1⟩
    replace T := T.call hb1
    clear hb1
    obtain ⟨c0, c1, f0, f1⟩ := T.cells
    go_wp2
    exact bodyPost_ret (v := .agg #[.int .i64 0, .string ⟨#[]⟩, .bool false, .int .i64 0, .int .i64 0]) (by simp [results, Try.results47, go_sem, c1]) rfl ⟨rfl, below_set5 T.below (by omega) _ _ _ _ _⟩
  · have H : finishF s = ⟨s.L, s.B, true, s.S, s.N⟩ := by simp [finishF, h]
    rw [H]
    clear H
    dsimp only
    go_enter Try.func47, Try.ntmps47
    go_wp2_with fail
    refine (isOK_ok _ s _ T.r0).mono ?_
    rintro e w1 ⟨rfl, hb1⟩
    replace T := T.call hb1
    clear hb1
    have Z := T.cells
    go_wp2_with fail
    refine (finishP_ok _ _ _ _ _ _ _ T.r0).mono ?_
    rintro e w2 ⟨rfl, rfl⟩
    clear Z
    replace T := T.set0 2 (.bool true)
    generalize w1.setCell ⟨w.heap.size, 2, none⟩ (.bool true) = W at T ⊢
    obtain ⟨c0, c1, f0, f1⟩ := T.cells
    go_wp2
    exact bodyPost_ret (v := .agg #[.int .i64 s.L, .string s.B, .bool true, .int .i64 s.S, .int .i64 s.N]) (by simp [results, Try.results47, go_sem, c1]) rfl ⟨rfl, below_set5 T.below (by omega) _ _ _ _ _⟩

set_option maxRecDepth 100000 in
set_option maxHeartbeats 1000000 in
theorem implFeed_bad (L : Int) (B : ByteArray) (C : Bool) (S N : Int) (ch : ByteArray) (w : World) (h : sessB ⟨L, B, C, S, N⟩ = false) :
    Calls Try.prog 45 #[.agg #[.int .i64 L, .string B, .bool C, .int .i64 S, .int .i64 N], .string ch] w fun e w' => e = .returned (.tuple #[.agg #[.int .i64 0, .string ⟨#[]⟩, .bool false, .int .i64 0, .int .i64 0], .int .i64 1]) ∧ Below w.heap.size w w' := by
  have T := Duo.new w 60 60 #[.int .i64 L, .string B, .bool C, .int .i64 S, .int .i64 N] #[.int .i64 0, .string ⟨#[]⟩, .bool false, .int .i64 0, .int .i64 0]
  go_enter Try.func45, Try.ntmps45
  go_wp2_with fail
  refine (isOK_ok _ ⟨L, B, C, S, N⟩ _ T.r0).mono ?_
  rintro e w1 ⟨rfl, hb1⟩
  replace T := T.call hb1
  clear hb1
  obtain ⟨c0, c1, f0, f1⟩ := T.cells
  go_wp2
  exact bodyPost_ret (v := .tuple #[.agg #[.int .i64 0, .string ⟨#[]⟩, .bool false, .int .i64 0, .int .i64 0], .int .i64 1]) (by simp [results, Try.results45, go_sem, c1]) rfl ⟨rfl, below_set5 T.below (by omega) _ _ _ _ _⟩

set_option maxRecDepth 100000 in
set_option maxHeartbeats 1000000 in
/-- What is left behind the call of feed. -/
theorem implFeed_via (L : Int) (B B' : ByteArray) (C : Bool) (S N c : Int) (ch : ByteArray) (w : World) (h : sessB ⟨L, B, C, S, N⟩ = true)
    (HF : ∀ W, Duo w 60 60 #[.int .i64 L, .string B, .bool C, .int .i64 S, .int .i64 N] #[.int .i64 0, .string ⟨#[]⟩, .bool false, .int .i64 0, .int .i64 0] W →
      Calls Try.prog 87 #[.pointer (some ⟨w.heap.size, 0, none⟩), .string ch] W fun e w' => e = .returned (.int .i64 c) ∧ Duo w 60 60 #[.int .i64 L, .string B', .bool C, .int .i64 S, .int .i64 N] #[.int .i64 0, .string ⟨#[]⟩, .bool false, .int .i64 0, .int .i64 0] w') :
    Calls Try.prog 45 #[.agg #[.int .i64 L, .string B, .bool C, .int .i64 S, .int .i64 N], .string ch] w fun e w' => e = .returned (.tuple #[.agg #[.int .i64 L, .string B', .bool C, .int .i64 S, .int .i64 N], .int .i64 c]) ∧ Below w.heap.size w w' := by
  have T := Duo.new w 60 60 #[.int .i64 L, .string B, .bool C, .int .i64 S, .int .i64 N] #[.int .i64 0, .string ⟨#[]⟩, .bool false, .int .i64 0, .int .i64 0]
  go_enter Try.func45, Try.ntmps45
  go_wp2_with fail
  refine (isOK_ok _ ⟨L, B, C, S, N⟩ _ T.r0).mono ?_
  rintro e w1 ⟨rfl, hb1⟩
  replace T := T.call hb1
  clear hb1
  go_wp2_with fail
  refine (HF _ T).mono ?_
  clear HF T
  rintro e W ⟨rfl, T⟩
  obtain ⟨c0, c1, f0, f1⟩ := T.cells
  go_wp2
  exact bodyPost_ret (v := .tuple #[.agg #[.int .i64 L, .string B', .bool C, .int .i64 S, .int .i64 N], .int .i64 c]) (by simp [results, Try.results45, go_sem, c1]) rfl ⟨rfl, below_set5 T.below (by omega) _ _ _ _ _⟩

theorem implFeed_ok (s : SessD) (ch : ByteArray) (w : World) (hch : ch.size ≤ 1048576) (hB : s.B.size ≤ 1048576) :
    Calls Try.prog 45 #[.agg #[.int .i64 s.L, .string s.B, .bool s.C, .int .i64 s.S, .int .i64 s.N], .string ch] w fun e w' => e = .returned (.tuple #[.agg #[.int .i64 (feedF s ch).L, .string (feedF s ch).B, .bool (feedF s ch).C, .int .i64 (feedF s ch).S, .int .i64 (feedF s ch).N], .int .i64 (feedC s ch)]) ∧ Below w.heap.size w w' := by
  obtain ⟨L, B, C, S, N⟩ := s
  cases h : sessB ⟨L, B, C, S, N⟩
  · simp only [feedF, feedC, h, SessD.zero, Bool.false_eq_true, if_false]
    exact implFeed_bad L B C S N ch w h
  cases C
  case true =>
    simp only [feedF, feedC, h, if_true]
    refine implFeed_via L B B true S N 2 ch w h fun W T => (feedP_shut _ L B S N ch W T.r0).mono ?_
    rintro e w' ⟨rfl, hb⟩
    exact ⟨rfl, T.call hb⟩
  by_cases hL : L < (B.size : Int) + ch.size
  · simp only [feedF, feedC, h, hL, if_true, Bool.false_eq_true, if_false]
    refine implFeed_via L B B false S N 3 ch w h fun W T => (feedP_full _ L B S N ch W T.r0 hch hB hL).mono ?_
    rintro e w' ⟨rfl, hb⟩
    exact ⟨rfl, T.call hb⟩
  · simp only [feedF, feedC, h, hL, if_true, Bool.false_eq_true, if_false]
    refine implFeed_via L B (B ++ ch) false S N 0 ch w h fun W T => (feedP_fits _ L B S N ch W T.r0 hch hB hL).mono ?_
    rintro e w' ⟨rfl, n, rfl⟩
    exact ⟨rfl, (T.drewN n).set0 1 _⟩
end Go.Proofs.Ytplhghhfdabccaa
