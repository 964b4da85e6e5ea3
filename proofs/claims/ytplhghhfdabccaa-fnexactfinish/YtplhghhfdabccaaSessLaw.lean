import Derived.Test.YtplhghhfdabccaaSessF
import Derived.Test.YtplhghhfdabccaaRow
namespace Go.Proofs.Ytplhghhfdabccaa
open Go.RowKit
attribute [local go_sem ↓] Go.wp_at_zero Go.wp_at_succ

set_option maxRecDepth 100000 in
set_option maxHeartbeats 1000000 in
theorem lawOpen_ok (L : Int) (w : World)
    (himpl : ∀ w : World, Calls Try.prog 40 #[.int .i64 L] w fun e w' => e = .returned (.agg #[.int .i64 (openF L).L, .string (openF L).B, .bool (openF L).C, .int .i64 (openF L).S, .int .i64 (openF L).N]) ∧ Below w.heap.size w w') :
    Calls Try.prog 10 #[.int .i64 L] w fun e w' => e = .returned (.bool true) ∧ Below w.heap.size w w' := by
  go_enter Try.func10, Try.ntmps10
  go_wp2_with fail
  refine (specOpen_ok L _).mono ?_
  rintro e w1 ⟨rfl, hb1⟩
  generalize openF L = s at *
  have r1 : (w1.alloc (.cells #[.int .i64 s.L, .string s.B, .bool s.C, .int .i64 s.S, .int .i64 s.N] 60)).heap[w1.heap.size]? = some (.cells #[.int .i64 s.L, .string s.B, .bool s.C, .int .i64 s.S, .int .i64 s.N] 60 (0, 0)) := heap_alloc_new _ _
  have hb1a := hb1.alloc hb1.size (.cells #[.int .i64 s.L, .string s.B, .bool s.C, .int .i64 s.S, .int .i64 s.N] 60)
  go_wp2_with fail
  refine (himpl _).mono ?_
  rintro e w2 ⟨rfl, hb2⟩
  have r2 := row_below r1 hb2
  have hlt := row_lt r2
  have hbb2 := below_step hb1a hb1a.size hb2
  obtain ⟨a0, a1, a2, a3, a4⟩ := row_five r2
  clear hb1a hb2 r1
  go_wp2_with fail
  refine (eqSession_ok s _).mono ?_
  rintro e w3 ⟨rfl, hb3⟩
  go_wp2
  go_ret
  exact ⟨rfl, below_step (hbb2.alloc hbb2.size _) (hbb2.alloc hbb2.size _).size hb3⟩

set_option maxRecDepth 100000 in
set_option maxHeartbeats 1000000 in
theorem lawFinish_ok (s : SessD) (w : World) (hB : s.B.size ≤ 9223372036854775807)
    (himpl : s.B.size ≤ 1048576 → ∀ w : World, Calls Try.prog 47 #[.agg #[.int .i64 s.L, .string s.B, .bool s.C, .int .i64 s.S, .int .i64 s.N]] w fun e w' => e = .returned (.agg #[.int .i64 (finishF s).L, .string (finishF s).B, .bool (finishF s).C, .int .i64 (finishF s).S, .int .i64 (finishF s).N]) ∧ Below w.heap.size w w') :
    Calls Try.prog 12 #[.agg #[.int .i64 s.L, .string s.B, .bool s.C, .int .i64 s.S, .int .i64 s.N]] w fun e w' => e = .returned (.bool true) ∧ Below w.heap.size w w' := by
  have hb0 : Below w.heap.size w (w.alloc (.cells #[.int .i64 s.L, .string s.B, .bool s.C, .int .i64 s.S, .int .i64 s.N] 64)) := (Below.refl _ _).alloc (Nat.le_refl _) _
  have r0 : (w.alloc (.cells #[.int .i64 s.L, .string s.B, .bool s.C, .int .i64 s.S, .int .i64 s.N] 64)).heap[w.heap.size]? = some (.cells #[.int .i64 s.L, .string s.B, .bool s.C, .int .i64 s.S, .int .i64 s.N] 64 (0, 0)) := heap_alloc_new _ _
  go_enter Try.func12, Try.ntmps12
  go_wp2_with fail
  refine (szSession_ok s 1048576 _ (by omega) (by omega) hB).mono ?_
  rintro e w1 ⟨rfl, hb1⟩
  have hbb1 := below_step hb0 hb0.size hb1
  have r1 := row_below r0 hb1
  obtain ⟨a0, a1, a2, a3, a4⟩ := row_five r1
  clear hb1 r0 hb0
  by_cases hneg : (1048576 : Int) - s.B.size < 0
  · rw [if_pos hneg]
    go_wp2
    go_ret
    exact ⟨rfl, hbb1⟩
  rw [if_neg hneg]
  have hsm : s.B.size ≤ 1048576 := by omega
  replace himpl := himpl hsm
  go_wp2_with fail
  refine (toSession_ok s _).mono ?_
  rintro e w2 ⟨rfl, hb2⟩
  have hbb2 := below_step hbb1 hbb1.size hb2
  have r2 := row_below r1 hb2
  clear a0 a1 a2 a3 a4 hb2
  obtain ⟨a0, a1, a2, a3, a4⟩ := row_five r2
  go_wp2_with fail
  refine (specFinish_ok s _).mono ?_
  rintro e w3 ⟨rfl, hb3⟩
  have hbb3 := below_step hbb2 hbb2.size hb3
  have r3 := row_below r2 hb3
  clear a0 a1 a2 a3 a4 hb3
  generalize finishF s = q at *
  have hb3a := hbb3.alloc hbb3.size (.cells #[.int .i64 q.L, .string q.B, .bool q.C, .int .i64 q.S, .int .i64 q.N] 60)
  have q3 : (w3.alloc (.cells #[.int .i64 q.L, .string q.B, .bool q.C, .int .i64 q.S, .int .i64 q.N] 60)).heap[w3.heap.size]? = some (.cells #[.int .i64 q.L, .string q.B, .bool q.C, .int .i64 q.S, .int .i64 q.N] 60 (0, 0)) := heap_alloc_new _ _
  have r3a : (w3.alloc (.cells #[.int .i64 q.L, .string q.B, .bool q.C, .int .i64 q.S, .int .i64 q.N] 60)).heap[w.heap.size]? = _ := row_alloc r3
  have hlt3 := row_lt r3
  obtain ⟨a0, a1, a2, a3, a4⟩ := row_five r3
  go_wp2_with fail
  refine (toSession_ok s _).mono ?_
  rintro e w4 ⟨rfl, hb4⟩
  have hbb4 := below_step hb3a hb3a.size hb4
  have q4 := row_below q3 hb4
  clear a0 a1 a2 a3 a4 hb4
  go_wp2_with fail
  refine (himpl _).mono ?_
  rintro e w5 ⟨rfl, hb5⟩
  have hbb5 := below_step hbb4 hbb4.size hb5
  have q5 := row_below q4 hb5
  have hlt5 := row_lt q5
  clear hb5
  obtain ⟨a0, a1, a2, a3, a4⟩ := row_five q5
  go_wp2_with fail
  refine (eqSession_ok q _).mono ?_
  rintro e w6 ⟨rfl, hb6⟩
  go_wp2
  go_ret
  exact ⟨rfl, below_step (hbb5.alloc hbb5.size _) (hbb5.alloc hbb5.size _).size hb6⟩

set_option maxRecDepth 100000 in
set_option maxHeartbeats 1000000 in
theorem lawFeed_ok (s : SessD) (ch : ByteArray) (w : World) (hB : s.B.size ≤ 9223372036854775807) (hCm : ch.size ≤ 9223372036854775807)
    (himpl : s.B.size ≤ 1048576 → ch.size ≤ 1048576 → ∀ w : World, Calls Try.prog 45 #[.agg #[.int .i64 s.L, .string s.B, .bool s.C, .int .i64 s.S, .int .i64 s.N], .string ch] w fun e w' => e = .returned (.tuple #[.agg #[.int .i64 (feedF s ch).L, .string (feedF s ch).B, .bool (feedF s ch).C, .int .i64 (feedF s ch).S, .int .i64 (feedF s ch).N], .int .i64 (feedC s ch)]) ∧ Below w.heap.size w w') :
    Calls Try.prog 11 #[.agg #[.int .i64 s.L, .string s.B, .bool s.C, .int .i64 s.S, .int .i64 s.N], .string ch] w fun e w' => e = .returned (.bool true) ∧ Below w.heap.size w w' := by
  have hb0 : Below w.heap.size w (w.alloc (.cells #[.int .i64 s.L, .string s.B, .bool s.C, .int .i64 s.S, .int .i64 s.N] 64)) := (Below.refl _ _).alloc (Nat.le_refl _) _
  have r0 : (w.alloc (.cells #[.int .i64 s.L, .string s.B, .bool s.C, .int .i64 s.S, .int .i64 s.N] 64)).heap[w.heap.size]? = some (.cells #[.int .i64 s.L, .string s.B, .bool s.C, .int .i64 s.S, .int .i64 s.N] 64 (0, 0)) := heap_alloc_new _ _
  go_enter Try.func11, Try.ntmps11
  by_cases hc : 1048576 < (ch.size : Int)
  · go_wp2
    go_ret
    exact ⟨rfl, hb0⟩
  have hc' : ch.size ≤ 1048576 := by omega
  go_wp2_with fail
  refine (szSession_ok s 1048576 _ (by omega) (by omega) hB).mono ?_
  rintro e w1 ⟨rfl, hb1⟩
  have hbb1 := below_step hb0 hb0.size hb1
  have r1 := row_below r0 hb1
  obtain ⟨a0, a1, a2, a3, a4⟩ := row_five r1
  clear hb1 r0 hb0
  by_cases hneg : (1048576 : Int) - s.B.size < 0
  · rw [if_pos hneg]
    go_wp2
    go_ret
    exact ⟨rfl, hbb1⟩
  rw [if_neg hneg]
  have hsm : s.B.size ≤ 1048576 := by omega
  replace himpl := himpl hsm hc'
  go_wp2_with fail
  refine (toSession_ok s _).mono ?_
  rintro e w2 ⟨rfl, hb2⟩
  have hbb2 := below_step hbb1 hbb1.size hb2
  have r2 := row_below r1 hb2
  clear a0 a1 a2 a3 a4 hb2
  obtain ⟨a0, a1, a2, a3, a4⟩ := row_five r2
  go_wp2_with fail
  refine (specFeed_ok s ch _ hc' hsm).mono ?_
  rintro e w3 ⟨rfl, hb3⟩
  have hbb3 := below_step hbb2 hbb2.size hb3
  have r3 := row_below r2 hb3
  clear a0 a1 a2 a3 a4 hb3
  generalize feedF s ch = q at *
  generalize feedC s ch = cd at *
  have hb3a := hbb3.alloc hbb3.size (.cells #[.int .i64 q.L, .string q.B, .bool q.C, .int .i64 q.S, .int .i64 q.N] 60)
  have q3 : (w3.alloc (.cells #[.int .i64 q.L, .string q.B, .bool q.C, .int .i64 q.S, .int .i64 q.N] 60)).heap[w3.heap.size]? = some (.cells #[.int .i64 q.L, .string q.B, .bool q.C, .int .i64 q.S, .int .i64 q.N] 60 (0, 0)) := heap_alloc_new _ _
  have r3a : (w3.alloc (.cells #[.int .i64 q.L, .string q.B, .bool q.C, .int .i64 q.S, .int .i64 q.N] 60)).heap[w.heap.size]? = _ := row_alloc r3
  have hlt3 := row_lt r3
  obtain ⟨a0, a1, a2, a3, a4⟩ := row_five r3
  go_wp2_with fail
  refine (toSession_ok s _).mono ?_
  rintro e w4 ⟨rfl, hb4⟩
  have hbb4 := below_step hb3a hb3a.size hb4
  have q4 := row_below q3 hb4
  clear a0 a1 a2 a3 a4 hb4
  go_wp2_with fail
  refine (himpl _).mono ?_
  rintro e w5 ⟨rfl, hb5⟩
  have hbb5 := below_step hbb4 hbb4.size hb5
  have q5 := row_below q4 hb5
  have hlt5 := row_lt q5
  clear hb5
  obtain ⟨a0, a1, a2, a3, a4⟩ := row_five q5
  have hne : (cd != cd) = false := by simp
  go_wp2_with fail
  refine (eqSession_ok q _).mono ?_
  rintro e w6 ⟨rfl, hb6⟩
  go_wp2
  go_ret
  exact ⟨rfl, below_step (hbb5.alloc hbb5.size _) (hbb5.alloc hbb5.size _).size hb6⟩
end Go.Proofs.Ytplhghhfdabccaa
