import Derived.Test.YtplhghhfdabccaaMark
import Derived.Test.YtplhghhfdabccaaRowA
namespace Go.Proofs.Ytplhghhfdabccaa
open Go.RowKit

theorem Fam.mark {gt n : Nat} {W W' : World} {v : Nat → Value} {l : Nat → List Int} (h : Fam gt n W v l) {i : Nat} (hi : i < n) {l' : List Int} (own : Owns (gt + 1) W' (v i) l') (oth : ∀ b, (v i).ownBlock ≠ some b → W'.heap[b]? = W.heap[b]?) : Fam gt n W' v (updL l i l') := by
  refine ⟨fun j hj => ?_, h.apart⟩
  by_cases e : j = i
  · subst e; rw [updL_same]; exact own
  · rw [updL_ne _ _ e]
    exact owns_keep (h.own j hj) fun b hb => oth b (fun hc => h.apart j i hj hi e b hb hc)
/-- Marking: the family, and the box of the table. -/
structure MarkSt (w : World) (gt : Nat) (width : Int) (v : Nat → Value) (W : World) (l : Nat → List Int) : Prop where
  fam : Fam gt 7 W v l
  box : W.heap[w.heap.size]? = some (.cells (rowA width v) 48 (0, 0))
  below : Below (gt + 1) w W
  low : ∀ i, i < 7 → ∀ b, (v i).ownBlock = some b → b < w.heap.size
  rest : ∀ b, b < w.heap.size → (∀ i, i < 7 → (v i).ownBlock ≠ some b) → W.heap[b]? = w.heap[b]?
theorem MarkSt.step {w : World} {gt : Nat} {width : Int} {v : Nat → Value} {W W' : World} {l : Nat → List Int} (h : MarkSt w gt width v W l) {i : Nat} (hi : i < 7) {l' : List Int} (own : Owns (gt + 1) W' (v i) l') (oth : ∀ b, (v i).ownBlock ≠ some b → W'.heap[b]? = W.heap[b]?) (hb : Below (gt + 1) W W') : MarkSt w gt width v W' (updL l i l') :=
  ⟨h.fam.mark hi own oth, (oth _ (fun hc => by have := h.low i hi _ hc; omega)).trans h.box, h.below.trans hb, h.low, fun b hlt hn => (oth b (hn i hi)).trans (h.rest b hlt hn)⟩

set_option maxRecDepth 100000 in
set_option maxHeartbeats 1000000 in
theorem markTable_ok {gt : Nat} (width : Int) (v : Nat → Value) (l : Nat → List Int) (k : Int) (w : World) (hF : Fam gt 7 w v l) (hgt : gt < w.heap.size) (hl : ∀ i, i < 7 → (l i).length ≤ 1048576) (h0 : 0 ≤ k) (h1 : k ≤ 1000000) :
    Calls Try.prog 37 #[.agg (rowA width v), .int .i64 k] w fun e w' => e = .returned (.int .i64 (k + (l 0).length + (l 1).length + (l 2).length + (l 3).length + (l 4).length + (l 5).length + (l 6).length)) ∧ Below (gt + 1) w w' ∧ (∀ b, b < w.heap.size → (∀ i, i < 7 → (v i).ownBlock ≠ some b) → w'.heap[b]? = w.heap[b]?) ∧
      Fam gt 7 w' v (updL (updL (updL (updL (updL (updL (updL (l) 0 (markL (k) (l 0).length)) 1 (markL (k + (l 0).length) (l 1).length)) 2 (markL (k + (l 0).length + (l 1).length) (l 2).length)) 3 (markL (k + (l 0).length + (l 1).length + (l 2).length) (l 3).length)) 4 (markL (k + (l 0).length + (l 1).length + (l 2).length + (l 3).length) (l 4).length)) 5 (markL (k + (l 0).length + (l 1).length + (l 2).length + (l 3).length + (l 4).length) (l 5).length)) 6 (markL (k + (l 0).length + (l 1).length + (l 2).length + (l 3).length + (l 4).length + (l 5).length) (l 6).length)) := by
  have l0 := hl 0 (by omega); have l1 := hl 1 (by omega); have l2 := hl 2 (by omega); have l3 := hl 3 (by omega); have l4 := hl 4 (by omega); have l5 := hl 5 (by omega); have l6 := hl 6 (by omega)
  have M : MarkSt w gt width v (w.alloc (.cells (rowA width v) 48)) l :=
    ⟨hF.below ((Below.refl _ _).alloc (Nat.le_refl _) _), heap_alloc_new _ _, (Below.refl _ _).alloc (by omega) _, fun i hi b hb => (owns_block (hF.own i hi) hb).2, fun b hlt _ => Below.heap_alloc _ _ _ hlt⟩
  unfold rowA
  go_enter Try.func37, Try.ntmps37
  go_wp2_with fail
  refine (markIntS_ok (B := gt + 1) (v 0) (l 0) (k) _ (M.fam.own 0 (by omega)) (by omega) (by omega) l0).mono ?_
  rintro e w1 ⟨rfl, o0, q0, z0, b0⟩
  replace M := M.step (i := 0) (by omega) o0 q0 b0
  clear o0 q0 z0 b0
  obtain ⟨x0, x1, x2, x3, x4, x5, x6, x7⟩ := row_A M.box
  go_wp2_with fail
  refine (markIntS_ok (B := gt + 1) (v 1) (l 1) (k + (l 0).length) _ (M.fam.own 1 (by omega)) (by omega) (by omega) l1).mono ?_
  rintro e w2 ⟨rfl, o1, q1, z1, b1⟩
  replace M := M.step (i := 1) (by omega) o1 q1 b1
  clear o1 q1 z1 b1
  obtain ⟨x0, x1, x2, x3, x4, x5, x6, x7⟩ := row_A M.box
  go_wp2_with fail
  refine (markIntS_ok (B := gt + 1) (v 2) (l 2) (k + (l 0).length + (l 1).length) _ (M.fam.own 2 (by omega)) (by omega) (by omega) l2).mono ?_
  rintro e w3 ⟨rfl, o2, q2, z2, b2⟩
  replace M := M.step (i := 2) (by omega) o2 q2 b2
  clear o2 q2 z2 b2
  obtain ⟨x0, x1, x2, x3, x4, x5, x6, x7⟩ := row_A M.box
  go_wp2_with fail
  refine (markIntS_ok (B := gt + 1) (v 3) (l 3) (k + (l 0).length + (l 1).length + (l 2).length) _ (M.fam.own 3 (by omega)) (by omega) (by omega) l3).mono ?_
  rintro e w4 ⟨rfl, o3, q3, z3, b3⟩
  replace M := M.step (i := 3) (by omega) o3 q3 b3
  clear o3 q3 z3 b3
  obtain ⟨x0, x1, x2, x3, x4, x5, x6, x7⟩ := row_A M.box
  go_wp2_with fail
  refine (markIntS_ok (B := gt + 1) (v 4) (l 4) (k + (l 0).length + (l 1).length + (l 2).length + (l 3).length) _ (M.fam.own 4 (by omega)) (by omega) (by omega) l4).mono ?_
  rintro e w5 ⟨rfl, o4, q4, z4, b4⟩
  replace M := M.step (i := 4) (by omega) o4 q4 b4
  clear o4 q4 z4 b4
  obtain ⟨x0, x1, x2, x3, x4, x5, x6, x7⟩ := row_A M.box
  go_wp2_with fail
  refine (markIntS_ok (B := gt + 1) (v 5) (l 5) (k + (l 0).length + (l 1).length + (l 2).length + (l 3).length + (l 4).length) _ (M.fam.own 5 (by omega)) (by omega) (by omega) l5).mono ?_
  rintro e w6 ⟨rfl, o5, q5, z5, b5⟩
  replace M := M.step (i := 5) (by omega) o5 q5 b5
  clear o5 q5 z5 b5
  obtain ⟨x0, x1, x2, x3, x4, x5, x6, x7⟩ := row_A M.box
  go_wp2_with fail
  refine (markIntS_ok (B := gt + 1) (v 6) (l 6) (k + (l 0).length + (l 1).length + (l 2).length + (l 3).length + (l 4).length + (l 5).length) _ (M.fam.own 6 (by omega)) (by omega) (by omega) l6).mono ?_
  rintro e w7 ⟨rfl, o6, q6, z6, b6⟩
  replace M := M.step (i := 6) (by omega) o6 q6 b6
  clear o6 q6 z6 b6
  obtain ⟨x0, x1, x2, x3, x4, x5, x6, x7⟩ := row_A M.box
  go_wp2
  go_ret
  exact ⟨rfl, M.below, M.rest, M.fam⟩

set_option maxRecDepth 100000 in
set_option maxHeartbeats 1000000 in
theorem heldTable_ok {lo : Nat} (width : Int) (v : Nat → Value) (n0 n1 n2 n3 n4 n5 n6 : Nat) (k : Int) (w : World) (s0 : IntsAt lo w (v 0) (markL (k) n0)) (s1 : IntsAt lo w (v 1) (markL (k + n0) n1)) (s2 : IntsAt lo w (v 2) (markL (k + n0 + n1) n2)) (s3 : IntsAt lo w (v 3) (markL (k + n0 + n1 + n2) n3)) (s4 : IntsAt lo w (v 4) (markL (k + n0 + n1 + n2 + n3) n4)) (s5 : IntsAt lo w (v 5) (markL (k + n0 + n1 + n2 + n3 + n4) n5)) (s6 : IntsAt lo w (v 6) (markL (k + n0 + n1 + n2 + n3 + n4 + n5) n6)) (l0 : n0 ≤ 1048576) (l1 : n1 ≤ 1048576) (l2 : n2 ≤ 1048576) (l3 : n3 ≤ 1048576) (l4 : n4 ≤ 1048576) (l5 : n5 ≤ 1048576) (l6 : n6 ≤ 1048576) (h0 : 0 ≤ k) (h1 : k ≤ 1000000) :
    Calls Try.prog 38 #[.agg (rowA width v), .int .i64 k] w fun e w' => e = .returned (.int .i64 (k + n0 + n1 + n2 + n3 + n4 + n5 + n6)) ∧ Below w.heap.size w w' := by
  have hb : Below w.heap.size w (w.alloc (.cells (rowA width v) 48)) := (Below.refl _ _).alloc (Nat.le_refl _) _
  have hrow : (w.alloc (.cells (rowA width v) 48)).heap[w.heap.size]? = some (.cells (rowA width v) 48 (0, 0)) := heap_alloc_new _ _
  unfold rowA at *
  go_enter Try.func38, Try.ntmps38
  go_wp2_with fail
  refine (heldIntS_ok (v 0) n0 (k) _ (s0.below hb) (by omega) (by omega) l0).mono ?_
  rintro e w' ⟨rfl, rfl⟩
  go_wp2_with fail
  refine (heldIntS_ok (v 1) n1 (k + n0) _ (s1.below hb) (by omega) (by omega) l1).mono ?_
  rintro e w' ⟨rfl, rfl⟩
  go_wp2_with fail
  refine (heldIntS_ok (v 2) n2 (k + n0 + n1) _ (s2.below hb) (by omega) (by omega) l2).mono ?_
  rintro e w' ⟨rfl, rfl⟩
  go_wp2_with fail
  refine (heldIntS_ok (v 3) n3 (k + n0 + n1 + n2) _ (s3.below hb) (by omega) (by omega) l3).mono ?_
  rintro e w' ⟨rfl, rfl⟩
  go_wp2_with fail
  refine (heldIntS_ok (v 4) n4 (k + n0 + n1 + n2 + n3) _ (s4.below hb) (by omega) (by omega) l4).mono ?_
  rintro e w' ⟨rfl, rfl⟩
  go_wp2_with fail
  refine (heldIntS_ok (v 5) n5 (k + n0 + n1 + n2 + n3 + n4) _ (s5.below hb) (by omega) (by omega) l5).mono ?_
  rintro e w' ⟨rfl, rfl⟩
  go_wp2_with fail
  refine (heldIntS_ok (v 6) n6 (k + n0 + n1 + n2 + n3 + n4 + n5) _ (s6.below hb) (by omega) (by omega) l6).mono ?_
  rintro e w' ⟨rfl, rfl⟩
  go_wp2
  go_ret
  exact ⟨rfl, hb⟩
end Go.Proofs.Ytplhghhfdabccaa
