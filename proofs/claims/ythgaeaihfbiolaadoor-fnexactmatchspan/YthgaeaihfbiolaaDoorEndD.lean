import Derived.Test.YthgaeaihfbiolaaDoorEndC
namespace Go.Proofs.YthgaeaihfbiolaaDoor
open Go.RowKit
attribute [local go_sem ↓] Go.wp_at_zero Go.wp_at_succ

/-- What is held while l1Ends asks its parts: the box of the branch, the box of the node, one cell of each row of parts. -/
def EndH (w : World) (a0 a1 a2 a3 : Value) (n0 n1 n2 n3 n4 : Value) (gl gr n : Nat) (lv rv : Value) (W : World) : Prop :=
  Below w.heap.size w W ∧ w.heap.size + 1 < W.heap.size ∧ W.cell? ⟨w.heap.size, 0, none⟩ = some a0 ∧ W.cell? ⟨w.heap.size, 1, none⟩ = some a1 ∧ W.cell? ⟨w.heap.size, 2, none⟩ = some a2 ∧ W.cell? ⟨w.heap.size, 3, none⟩ = some a3 ∧
    W.cell? ⟨w.heap.size + 1, 0, none⟩ = some n0 ∧ W.cell? ⟨w.heap.size + 1, 1, none⟩ = some n1 ∧ W.cell? ⟨w.heap.size + 1, 2, none⟩ = some n2 ∧ W.cell? ⟨w.heap.size + 1, 3, none⟩ = some n3 ∧ W.cell? ⟨w.heap.size + 1, 4, none⟩ = some n4 ∧
    W.cell? ⟨gl, n, none⟩ = some lv ∧ W.cell? ⟨gr, n, none⟩ = some rv ∧ gl < w.heap.size ∧ gr < w.heap.size
theorem EndH.call {w W W' : World} {a0 a1 a2 a3 n0 n1 n2 n3 n4 : Value} {gl gr n : Nat} {lv rv : Value} (h : EndH w a0 a1 a2 a3 n0 n1 n2 n3 n4 gl gr n lv rv W) (hb : Below W.heap.size W W') : EndH w a0 a1 a2 a3 n0 n1 n2 n3 n4 gl gr n lv rv W' := by
  obtain ⟨h1, h2, c0, c1, c2, c3, d0, d1, d2, d3, d4, l, r, lt, rt⟩ := h
  have hc : ∀ b o, b < W.heap.size → W'.cell? ⟨b, o, none⟩ = W.cell? ⟨b, o, none⟩ := fun b o hl => hb.cell (p := ⟨b, o, none⟩) hl
  have hz := h1.size
  exact ⟨below_step h1 h1.size hb, Nat.lt_of_lt_of_le h2 hb.size, (hc _ _ (by omega)).trans c0, (hc _ _ (by omega)).trans c1, (hc _ _ (by omega)).trans c2, (hc _ _ (by omega)).trans c3, (hc _ _ (by omega)).trans d0, (hc _ _ (by omega)).trans d1, (hc _ _ (by omega)).trans d2, (hc _ _ (by omega)).trans d3, (hc _ _ (by omega)).trans d4, (hc _ _ (by omega)).trans l, (hc _ _ (by omega)).trans r, lt, rt⟩
theorem endK_call {w W W' : World} {a0 a1 a2 a3 : Value} {gl gr n : Nat} {lv rv : Value} (lt : gl < w.heap.size) (rt : gr < w.heap.size)
    (h : Below w.heap.size w W ∧ w.heap.size + 1 < W.heap.size ∧ W.cell? ⟨w.heap.size, 0, none⟩ = some a0 ∧ W.cell? ⟨w.heap.size, 1, none⟩ = some a1 ∧ W.cell? ⟨w.heap.size, 2, none⟩ = some a2 ∧ W.cell? ⟨w.heap.size, 3, none⟩ = some a3 ∧ W.cell? ⟨gl, n, none⟩ = some lv ∧ W.cell? ⟨gr, n, none⟩ = some rv) (hb : Below W.heap.size W W') :
    Below w.heap.size w W' ∧ w.heap.size + 1 < W'.heap.size ∧ W'.cell? ⟨w.heap.size, 0, none⟩ = some a0 ∧ W'.cell? ⟨w.heap.size, 1, none⟩ = some a1 ∧ W'.cell? ⟨w.heap.size, 2, none⟩ = some a2 ∧ W'.cell? ⟨w.heap.size, 3, none⟩ = some a3 ∧ W'.cell? ⟨gl, n, none⟩ = some lv ∧ W'.cell? ⟨gr, n, none⟩ = some rv := by
  obtain ⟨h1, h2, c0, c1, c2, c3, l, r⟩ := h
  have hc : ∀ b o, b < W.heap.size → W'.cell? ⟨b, o, none⟩ = W.cell? ⟨b, o, none⟩ := fun b o hl => hb.cell (p := ⟨b, o, none⟩) hl
  have hz := h1.size
  exact ⟨below_step h1 h1.size hb, Nat.lt_of_lt_of_le h2 hb.size, (hc _ _ (by omega)).trans c0, (hc _ _ (by omega)).trans c1, (hc _ _ (by omega)).trans c2, (hc _ _ (by omega)).trans c3, (hc _ _ (by omega)).trans l, (hc _ _ (by omega)).trans r⟩

set_option maxRecDepth 100000 in
set_option maxHeartbeats 4000000 in
theorem endsC_grp (ns : List NodeD) (n x : Nat) (hn : n < ns.length) (hk : kindAt ns n = 5) (hT : tOf ns n = .grp (tOf ns x) (ns.getD n .zero).group) (hL : leftOf ns n = x) (hX : EndsC ns x) : EndsC ns n := by
  intro w ao c gl cl gr cr t g cap m S F hbr hS hSm hF ht
  rw [hT]
  obtain ⟨ao2, cap2, hv, hml, hc⟩ := hbr.nodes
  cases hv
  obtain ⟨b, o, sv, nd, rfl, Hn, hbl, c0, c1, c2, c3, c4, hsv⟩ := hc.elem (Below.refl _ _) hn
  have hk1 : nd.kind = 5 := by rw [← hk]; unfold kindAt; rw [Hn.out]
  rw [hk1] at c0
  obtain ⟨sao, scp, rfl, hsm, hsc⟩ := hsv
  have hX' := fun (W : World) (hb : Below w.heap.size w W) => hX W (some ⟨b, o, none⟩) c gl cl gr cr t g cap m S F (hbr.below hb) (hS.below hb) hSm hF ht
  have l0 := hbr.left n hn
  rw [hL] at l0
  have r0 := hbr.right n hn
  obtain ⟨ri, hri⟩ : ∃ ri, rightOf ns n = ri := ⟨_, rfl⟩
  rw [hri] at r0
  have hlt := hbr.ltl
  have hrt := hbr.ltr
  clear hk hT hk1 hc hsc hbr hX hF hri
  have hi0 : (0 : Int) ≤ (n : Int) := by omega
  have hi1 : (n : Int) < (ns.length : Int) := by omega
  have H0 : EndH w (.slice (some ⟨b, o, none⟩) ns.length c) (.slice (some ⟨gl, 0, none⟩) ns.length cl) (.slice (some ⟨gr, 0, none⟩) ns.length cr) (.string t) (.int .i64 5) (.slice sao nd.set.length scp) (.int .i64 nd.min) (.int .i64 nd.max) (.int .i64 nd.group) gl gr n (.int .i64 x) (.int .i64 ri) ((w.alloc (.cells #[.slice (some ⟨b, o, none⟩) ns.length c, .slice (some ⟨gl, 0, none⟩) ns.length cl, .slice (some ⟨gr, 0, none⟩) ns.length cr, .string t] 69)).alloc (.cells #[.int .i64 5, .slice sao nd.set.length scp, .int .i64 nd.min, .int .i64 nd.max, .int .i64 nd.group] 106)).drew := by
    have k0 : (w.alloc (.cells #[.slice (some ⟨b, o, none⟩) ns.length c, .slice (some ⟨gl, 0, none⟩) ns.length cl, .slice (some ⟨gr, 0, none⟩) ns.length cr, .string t] 69)).heap[w.heap.size]? = _ := heap_alloc_new _ _
    have k1 : ((w.alloc (.cells #[.slice (some ⟨b, o, none⟩) ns.length c, .slice (some ⟨gl, 0, none⟩) ns.length cl, .slice (some ⟨gr, 0, none⟩) ns.length cr, .string t] 69)).alloc (.cells #[.int .i64 5, .slice sao nd.set.length scp, .int .i64 nd.min, .int .i64 nd.max, .int .i64 nd.group] 106)).heap[w.heap.size]? = _ := row_alloc k0
    have k2 : ((w.alloc (.cells #[.slice (some ⟨b, o, none⟩) ns.length c, .slice (some ⟨gl, 0, none⟩) ns.length cl, .slice (some ⟨gr, 0, none⟩) ns.length cr, .string t] 69)).alloc (.cells #[.int .i64 5, .slice sao nd.set.length scp, .int .i64 nd.min, .int .i64 nd.max, .int .i64 nd.group] 106)).heap[w.heap.size + 1]? = some (.cells #[.int .i64 5, .slice sao nd.set.length scp, .int .i64 nd.min, .int .i64 nd.max, .int .i64 nd.group] 106 (0, 0)) := by have := heap_alloc_new (w.alloc (.cells #[.slice (some ⟨b, o, none⟩) ns.length c, .slice (some ⟨gl, 0, none⟩) ns.length cl, .slice (some ⟨gr, 0, none⟩) ns.length cr, .string t] 69)) (.cells #[.int .i64 5, .slice sao nd.set.length scp, .int .i64 nd.min, .int .i64 nd.max, .int .i64 nd.group] 106); simpa using this
    obtain ⟨p0, p1, p2, p3⟩ := row_four k1
    obtain ⟨q0, q1, q2, q3, q4⟩ := row_fiveN k2
    have hb : Below w.heap.size w ((w.alloc (.cells #[.slice (some ⟨b, o, none⟩) ns.length c, .slice (some ⟨gl, 0, none⟩) ns.length cl, .slice (some ⟨gr, 0, none⟩) ns.length cr, .string t] 69)).alloc (.cells #[.int .i64 5, .slice sao nd.set.length scp, .int .i64 nd.min, .int .i64 nd.max, .int .i64 nd.group] 106)) := ((Below.refl _ _).alloc (Nat.le_refl _) _).alloc (by simp) _
    exact ⟨hb.drew, by simp, p0, p1, p2, p3, q0, q1, q2, q3, q4, (hb.cell (p := ⟨gl, n, none⟩) hlt).trans l0, (hb.cell (p := ⟨gr, n, none⟩) hrt).trans r0, hlt, hrt⟩
  have HB0 := H0.1
  go_enter Tryd.func27, Tryd.ntmps27
  go_wp2
  go_region_held3 (fun w' => Below w.heap.size w w' ∧ w.heap.size + 1 < w'.heap.size ∧ w'.cell? ⟨w.heap.size, 0, none⟩ = some (.slice (some ⟨b, o, none⟩) ns.length c) ∧ w'.cell? ⟨w.heap.size, 1, none⟩ = some (.slice (some ⟨gl, 0, none⟩) ns.length cl) ∧ w'.cell? ⟨w.heap.size, 2, none⟩ = some (.slice (some ⟨gr, 0, none⟩) ns.length cr) ∧ w'.cell? ⟨w.heap.size, 3, none⟩ = some (.string t) ∧ w'.cell? ⟨w.heap.size + 1, 0, none⟩ = some (.int .i64 5) ∧ w'.cell? ⟨w.heap.size + 1, 1, none⟩ = some (.slice sao nd.set.length scp) ∧ w'.cell? ⟨w.heap.size + 1, 2, none⟩ = some (.int .i64 nd.min) ∧ w'.cell? ⟨w.heap.size + 1, 3, none⟩ = some (.int .i64 nd.max) ∧ w'.cell? ⟨w.heap.size + 1, 4, none⟩ = some (.int .i64 nd.group) ∧ w'.cell? ⟨gl, n, none⟩ = some (.int .i64 x) ∧ w'.cell? ⟨gr, n, none⟩ = some (.int .i64 ri) ∧ gl < w.heap.size ∧ gr < w.heap.size) ((first | exact EndH.call (show EndH w (.slice (some ⟨b, o, none⟩) ns.length c) (.slice (some ⟨gl, 0, none⟩) ns.length cl) (.slice (some ⟨gr, 0, none⟩) ns.length cr) (.string t) (.int .i64 5) (.slice sao nd.set.length scp) (.int .i64 nd.min) (.int .i64 nd.max) (.int .i64 nd.group) gl gr n (.int .i64 x) (.int .i64 ri) _ from by assumption) hb2 | go_keep)) ((go_at_call 27; refine (hX' _ (by first | exact H0.1 | exact (‹Below w.heap.size w _ ∧ _›).1)).mono ?_; rintro e w2 ⟨g2, c2, S2, rfl, hB2, hl2, hs2, hb2⟩))
  all_goals
    have hfin := ‹Below w.heap.size w _ ∧ _›
    go_wp2
    refine bodyPost_ret (v := .slice (some ⟨g2, 0, none⟩) m c2) (by simp [results, Tryd.results27, go_sem]) rfl ⟨g2, c2, S2, rfl, hB2, hl2, hs2, hfin.1⟩
set_option maxRecDepth 100000 in
set_option maxHeartbeats 4000000 in
theorem endsC_rep (ns : List NodeD) (n x mn : Nat) (hn : n < ns.length) (hk : kindAt ns n = 4) (hT : tOf ns n = .rep (tOf ns x) mn (ns.getD n .zero).max) (hL : leftOf ns n = x) (hX : EndsC ns x) (hm1 : (ns.getD n .zero).min = mn) (hm2 : mn ≤ 255) (hm3 : (ns.getD n .zero).max = -1 ∨ ((mn : Int) ≤ (ns.getD n .zero).max ∧ (ns.getD n .zero).max ≤ 255)) : EndsC ns n := by
  intro w ao c gl cl gr cr t g cap m S F hbr hS hSm hF ht
  rw [hT]
  obtain ⟨ao2, cap2, hv, hml, hc⟩ := hbr.nodes
  cases hv
  obtain ⟨b, o, sv, nd, rfl, Hn, hbl, c0, c1, c2, c3, c4, hsv⟩ := hc.elem (Below.refl _ _) hn
  have hk1 : nd.kind = 4 := by rw [← hk]; unfold kindAt; rw [Hn.out]
  rw [hk1] at c0
  obtain ⟨sao, scp, rfl, hsm, hsc⟩ := hsv
  rw [Hn.out] at hm1 hm3 ⊢
  rw [hm1] at c2
  have hX' := fun (W : World) (hb : Below w.heap.size w W) => copied_ok ns x hX W (some ⟨b, o, none⟩) c gl cl gr cr t g cap m S F mn nd.max (hbr.below hb) (hS.below hb) hSm hF ht hm2 hm3
  have l0 := hbr.left n hn
  rw [hL] at l0
  have r0 := hbr.right n hn
  obtain ⟨ri, hri⟩ : ∃ ri, rightOf ns n = ri := ⟨_, rfl⟩
  rw [hri] at r0
  have hlt := hbr.ltl
  have hrt := hbr.ltr
  clear hk hT hk1 hc hsc hbr hX hF hri hm1 hm2 hm3
  have hi0 : (0 : Int) ≤ (n : Int) := by omega
  have hi1 : (n : Int) < (ns.length : Int) := by omega
  have H0 : EndH w (.slice (some ⟨b, o, none⟩) ns.length c) (.slice (some ⟨gl, 0, none⟩) ns.length cl) (.slice (some ⟨gr, 0, none⟩) ns.length cr) (.string t) (.int .i64 4) (.slice sao nd.set.length scp) (.int .i64 (mn : Nat)) (.int .i64 nd.max) (.int .i64 nd.group) gl gr n (.int .i64 x) (.int .i64 ri) ((w.alloc (.cells #[.slice (some ⟨b, o, none⟩) ns.length c, .slice (some ⟨gl, 0, none⟩) ns.length cl, .slice (some ⟨gr, 0, none⟩) ns.length cr, .string t] 69)).alloc (.cells #[.int .i64 4, .slice sao nd.set.length scp, .int .i64 (mn : Nat), .int .i64 nd.max, .int .i64 nd.group] 106)).drew := by
    have k0 : (w.alloc (.cells #[.slice (some ⟨b, o, none⟩) ns.length c, .slice (some ⟨gl, 0, none⟩) ns.length cl, .slice (some ⟨gr, 0, none⟩) ns.length cr, .string t] 69)).heap[w.heap.size]? = _ := heap_alloc_new _ _
    have k1 : ((w.alloc (.cells #[.slice (some ⟨b, o, none⟩) ns.length c, .slice (some ⟨gl, 0, none⟩) ns.length cl, .slice (some ⟨gr, 0, none⟩) ns.length cr, .string t] 69)).alloc (.cells #[.int .i64 4, .slice sao nd.set.length scp, .int .i64 (mn : Nat), .int .i64 nd.max, .int .i64 nd.group] 106)).heap[w.heap.size]? = _ := row_alloc k0
    have k2 : ((w.alloc (.cells #[.slice (some ⟨b, o, none⟩) ns.length c, .slice (some ⟨gl, 0, none⟩) ns.length cl, .slice (some ⟨gr, 0, none⟩) ns.length cr, .string t] 69)).alloc (.cells #[.int .i64 4, .slice sao nd.set.length scp, .int .i64 (mn : Nat), .int .i64 nd.max, .int .i64 nd.group] 106)).heap[w.heap.size + 1]? = some (.cells #[.int .i64 4, .slice sao nd.set.length scp, .int .i64 (mn : Nat), .int .i64 nd.max, .int .i64 nd.group] 106 (0, 0)) := by have := heap_alloc_new (w.alloc (.cells #[.slice (some ⟨b, o, none⟩) ns.length c, .slice (some ⟨gl, 0, none⟩) ns.length cl, .slice (some ⟨gr, 0, none⟩) ns.length cr, .string t] 69)) (.cells #[.int .i64 4, .slice sao nd.set.length scp, .int .i64 (mn : Nat), .int .i64 nd.max, .int .i64 nd.group] 106); simpa using this
    obtain ⟨p0, p1, p2, p3⟩ := row_four k1
    obtain ⟨q0, q1, q2, q3, q4⟩ := row_fiveN k2
    have hb : Below w.heap.size w ((w.alloc (.cells #[.slice (some ⟨b, o, none⟩) ns.length c, .slice (some ⟨gl, 0, none⟩) ns.length cl, .slice (some ⟨gr, 0, none⟩) ns.length cr, .string t] 69)).alloc (.cells #[.int .i64 4, .slice sao nd.set.length scp, .int .i64 (mn : Nat), .int .i64 nd.max, .int .i64 nd.group] 106)) := ((Below.refl _ _).alloc (Nat.le_refl _) _).alloc (by simp) _
    exact ⟨hb.drew, by simp, p0, p1, p2, p3, q0, q1, q2, q3, q4, (hb.cell (p := ⟨gl, n, none⟩) hlt).trans l0, (hb.cell (p := ⟨gr, n, none⟩) hrt).trans r0, hlt, hrt⟩
  have HB0 := H0.1
  go_enter Tryd.func27, Tryd.ntmps27
  go_wp2
  go_region_held3 (fun w' => Below w.heap.size w w' ∧ w.heap.size + 1 < w'.heap.size ∧ w'.cell? ⟨w.heap.size, 0, none⟩ = some (.slice (some ⟨b, o, none⟩) ns.length c) ∧ w'.cell? ⟨w.heap.size, 1, none⟩ = some (.slice (some ⟨gl, 0, none⟩) ns.length cl) ∧ w'.cell? ⟨w.heap.size, 2, none⟩ = some (.slice (some ⟨gr, 0, none⟩) ns.length cr) ∧ w'.cell? ⟨w.heap.size, 3, none⟩ = some (.string t) ∧ w'.cell? ⟨w.heap.size + 1, 0, none⟩ = some (.int .i64 4) ∧ w'.cell? ⟨w.heap.size + 1, 1, none⟩ = some (.slice sao nd.set.length scp) ∧ w'.cell? ⟨w.heap.size + 1, 2, none⟩ = some (.int .i64 (mn : Nat)) ∧ w'.cell? ⟨w.heap.size + 1, 3, none⟩ = some (.int .i64 nd.max) ∧ w'.cell? ⟨w.heap.size + 1, 4, none⟩ = some (.int .i64 nd.group) ∧ w'.cell? ⟨gl, n, none⟩ = some (.int .i64 x) ∧ w'.cell? ⟨gr, n, none⟩ = some (.int .i64 ri) ∧ gl < w.heap.size ∧ gr < w.heap.size) ((first | exact EndH.call (show EndH w (.slice (some ⟨b, o, none⟩) ns.length c) (.slice (some ⟨gl, 0, none⟩) ns.length cl) (.slice (some ⟨gr, 0, none⟩) ns.length cr) (.string t) (.int .i64 4) (.slice sao nd.set.length scp) (.int .i64 (mn : Nat)) (.int .i64 nd.max) (.int .i64 nd.group) gl gr n (.int .i64 x) (.int .i64 ri) _ from by assumption) hb2 | go_keep)) ((go_at_call 52; refine (hX' _ (by first | exact HB0 | exact (‹Below w.heap.size w _ ∧ _›).1)).mono ?_; rintro e w2 ⟨g2, c2, S2, rfl, hB2, hl2, hs2, hb2⟩))
  all_goals
    have hfin := ‹Below w.heap.size w _ ∧ _›
    go_wp2
    refine bodyPost_ret (v := .slice (some ⟨g2, 0, none⟩) m c2) (by simp [results, Tryd.results27, go_sem]) rfl ⟨g2, c2, S2, rfl, hB2, hl2, hs2, hfin.1⟩

set_option maxRecDepth 100000 in
set_option maxHeartbeats 4000000 in
theorem endsC_seq (ns : List NodeD) (n x y : Nat) (hn : n < ns.length) (hk : kindAt ns n = 2) (hT : tOf ns n = .seq (tOf ns x) (tOf ns y)) (hL : leftOf ns n = x) (hR : rightOf ns n = y) (hX : EndsC ns x) (hY : EndsC ns y) : EndsC ns n := by
  intro w ao c gl cl gr cr t g cap m S F hbr hS hSm hF ht
  rw [hT]
  obtain ⟨ao2, cap2, hv, hml, hc⟩ := hbr.nodes
  cases hv
  obtain ⟨b, o, sv, nd, rfl, Hn, hbl, c0, c1, c2, c3, c4, hsv⟩ := hc.elem (Below.refl _ _) hn
  have hk1 : nd.kind = 2 := by rw [← hk]; unfold kindAt; rw [Hn.out]
  rw [hk1] at c0
  obtain ⟨sao, scp, rfl, hsm, hsc⟩ := hsv
  have hX' := fun (W : World) (hb : Below w.heap.size w W) => hX W (some ⟨b, o, none⟩) c gl cl gr cr t g cap m S F (hbr.below hb) (hS.below hb) hSm hF ht
  have hY' := fun (W : World) (hb : Below w.heap.size w W) (g cap : Nat) (C : List Bool) (P : Nat → Prop) (h1 : BoolsAt W g C) (h2 : C.length = m) (h3 : IsSet t.size C P) => hY W (some ⟨b, o, none⟩) c gl cl gr cr t g cap m C P (hbr.below hb) h1 h2 h3 ht
  have l0 := hbr.left n hn
  rw [hL] at l0
  have r0 := hbr.right n hn
  rw [hR] at r0
  have hlt := hbr.ltl
  have hrt := hbr.ltr
  clear hk hT hk1 hc hsc hbr hX hY hF
  have hi0 : (0 : Int) ≤ (n : Int) := by omega
  have hi1 : (n : Int) < (ns.length : Int) := by omega
  have H0 : EndH w (.slice (some ⟨b, o, none⟩) ns.length c) (.slice (some ⟨gl, 0, none⟩) ns.length cl) (.slice (some ⟨gr, 0, none⟩) ns.length cr) (.string t) (.int .i64 2) (.slice sao nd.set.length scp) (.int .i64 nd.min) (.int .i64 nd.max) (.int .i64 nd.group) gl gr n (.int .i64 x) (.int .i64 y) ((w.alloc (.cells #[.slice (some ⟨b, o, none⟩) ns.length c, .slice (some ⟨gl, 0, none⟩) ns.length cl, .slice (some ⟨gr, 0, none⟩) ns.length cr, .string t] 69)).alloc (.cells #[.int .i64 2, .slice sao nd.set.length scp, .int .i64 nd.min, .int .i64 nd.max, .int .i64 nd.group] 106)).drew := by
    have k0 : (w.alloc (.cells #[.slice (some ⟨b, o, none⟩) ns.length c, .slice (some ⟨gl, 0, none⟩) ns.length cl, .slice (some ⟨gr, 0, none⟩) ns.length cr, .string t] 69)).heap[w.heap.size]? = _ := heap_alloc_new _ _
    have k1 : ((w.alloc (.cells #[.slice (some ⟨b, o, none⟩) ns.length c, .slice (some ⟨gl, 0, none⟩) ns.length cl, .slice (some ⟨gr, 0, none⟩) ns.length cr, .string t] 69)).alloc (.cells #[.int .i64 2, .slice sao nd.set.length scp, .int .i64 nd.min, .int .i64 nd.max, .int .i64 nd.group] 106)).heap[w.heap.size]? = _ := row_alloc k0
    have k2 : ((w.alloc (.cells #[.slice (some ⟨b, o, none⟩) ns.length c, .slice (some ⟨gl, 0, none⟩) ns.length cl, .slice (some ⟨gr, 0, none⟩) ns.length cr, .string t] 69)).alloc (.cells #[.int .i64 2, .slice sao nd.set.length scp, .int .i64 nd.min, .int .i64 nd.max, .int .i64 nd.group] 106)).heap[w.heap.size + 1]? = some (.cells #[.int .i64 2, .slice sao nd.set.length scp, .int .i64 nd.min, .int .i64 nd.max, .int .i64 nd.group] 106 (0, 0)) := by have := heap_alloc_new (w.alloc (.cells #[.slice (some ⟨b, o, none⟩) ns.length c, .slice (some ⟨gl, 0, none⟩) ns.length cl, .slice (some ⟨gr, 0, none⟩) ns.length cr, .string t] 69)) (.cells #[.int .i64 2, .slice sao nd.set.length scp, .int .i64 nd.min, .int .i64 nd.max, .int .i64 nd.group] 106); simpa using this
    obtain ⟨p0, p1, p2, p3⟩ := row_four k1
    obtain ⟨q0, q1, q2, q3, q4⟩ := row_fiveN k2
    have hb : Below w.heap.size w ((w.alloc (.cells #[.slice (some ⟨b, o, none⟩) ns.length c, .slice (some ⟨gl, 0, none⟩) ns.length cl, .slice (some ⟨gr, 0, none⟩) ns.length cr, .string t] 69)).alloc (.cells #[.int .i64 2, .slice sao nd.set.length scp, .int .i64 nd.min, .int .i64 nd.max, .int .i64 nd.group] 106)) := ((Below.refl _ _).alloc (Nat.le_refl _) _).alloc (by simp) _
    exact ⟨hb.drew, by simp, p0, p1, p2, p3, q0, q1, q2, q3, q4, (hb.cell (p := ⟨gl, n, none⟩) hlt).trans l0, (hb.cell (p := ⟨gr, n, none⟩) hrt).trans r0, hlt, hrt⟩
  have HB0 := H0.1
  go_enter Tryd.func27, Tryd.ntmps27
  go_wp2
  go_region_held3 (fun w' => Below w.heap.size w w' ∧ w.heap.size + 1 < w'.heap.size ∧ w'.cell? ⟨w.heap.size, 0, none⟩ = some (.slice (some ⟨b, o, none⟩) ns.length c) ∧ w'.cell? ⟨w.heap.size, 1, none⟩ = some (.slice (some ⟨gl, 0, none⟩) ns.length cl) ∧ w'.cell? ⟨w.heap.size, 2, none⟩ = some (.slice (some ⟨gr, 0, none⟩) ns.length cr) ∧ w'.cell? ⟨w.heap.size, 3, none⟩ = some (.string t) ∧ w'.cell? ⟨gl, n, none⟩ = some (.int .i64 x) ∧ w'.cell? ⟨gr, n, none⟩ = some (.int .i64 y)) ((first | exact endK_call hlt hrt (by assumption) hb2 | exact endK_call hlt hrt (by assumption) hb3 | go_keep)) ((first | (have hgo := hB2; go_at_call 27; refine (hY' _ (by first | exact HB0 | exact (‹Below w.heap.size w _ ∧ _›).1) g2 c2 S2 _ hgo hl2 hs2).mono ?_; rintro e w3 ⟨g3, c3, S3, rfl, hB3, hl3, hs3, hb3⟩) | (go_at_call 27; refine (hX' _ (by first | exact HB0 | exact (‹Below w.heap.size w _ ∧ _›).1)).mono ?_; rintro e w2 ⟨g2, c2, S2, rfl, hB2, hl2, hs2, hb2⟩)))
  all_goals
    have hfin := ‹Below w.heap.size w _ ∧ _›
    go_wp2
    refine bodyPost_ret (v := .slice (some ⟨g3, 0, none⟩) m c3) (by simp [results, Tryd.results27, go_sem]) rfl ⟨g3, c3, S3, rfl, hB3, hl3, hs3.congr fun j => (ends_seq j).symm, hfin.1⟩

set_option maxRecDepth 100000 in
set_option maxHeartbeats 4000000 in
theorem endsC_alt (ns : List NodeD) (n x y : Nat) (hn : n < ns.length) (hk : kindAt ns n = 3) (hT : tOf ns n = .alt (tOf ns x) (tOf ns y)) (hL : leftOf ns n = x) (hR : rightOf ns n = y) (hX : EndsC ns x) (hY : EndsC ns y) : EndsC ns n := by
  intro w ao c gl cl gr cr t g cap m S F hbr hS hSm hF ht
  rw [hT]
  obtain ⟨ao2, cap2, hv, hml, hc⟩ := hbr.nodes
  cases hv
  obtain ⟨b, o, sv, nd, rfl, Hn, hbl, c0, c1, c2, c3, c4, hsv⟩ := hc.elem (Below.refl _ _) hn
  have hk1 : nd.kind = 3 := by rw [← hk]; unfold kindAt; rw [Hn.out]
  rw [hk1] at c0
  obtain ⟨sao, scp, rfl, hsm, hsc⟩ := hsv
  have hX' := fun (z : Nat) (W : World) (hb : Below w.heap.size w W) (hz : z = x) => (hz ▸ hX : EndsC ns z) W (some ⟨b, o, none⟩) c gl cl gr cr t g cap m S F (hbr.below hb) (hS.below hb) hSm hF ht
  have hY' := fun (z : Nat) (W : World) (hb : Below w.heap.size w W) (hz : z = y) => (hz ▸ hY : EndsC ns z) W (some ⟨b, o, none⟩) c gl cl gr cr t g cap m S F (hbr.below hb) (hS.below hb) hSm hF ht
  have hm5 : m ≤ 1048576 := by have := hF.len; omega
  have l0 := hbr.left n hn
  rw [hL] at l0
  have r0 := hbr.right n hn
  rw [hR] at r0
  have hlt := hbr.ltl
  have hrt := hbr.ltr
  clear hk hT hk1 hc hsc hbr hX hY hF
  have hi0 : (0 : Int) ≤ (n : Int) := by omega
  have hi1 : (n : Int) < (ns.length : Int) := by omega
  have H0 : EndH w (.slice (some ⟨b, o, none⟩) ns.length c) (.slice (some ⟨gl, 0, none⟩) ns.length cl) (.slice (some ⟨gr, 0, none⟩) ns.length cr) (.string t) (.int .i64 3) (.slice sao nd.set.length scp) (.int .i64 nd.min) (.int .i64 nd.max) (.int .i64 nd.group) gl gr n (.int .i64 x) (.int .i64 y) ((w.alloc (.cells #[.slice (some ⟨b, o, none⟩) ns.length c, .slice (some ⟨gl, 0, none⟩) ns.length cl, .slice (some ⟨gr, 0, none⟩) ns.length cr, .string t] 69)).alloc (.cells #[.int .i64 3, .slice sao nd.set.length scp, .int .i64 nd.min, .int .i64 nd.max, .int .i64 nd.group] 106)).drew := by
    have k0 : (w.alloc (.cells #[.slice (some ⟨b, o, none⟩) ns.length c, .slice (some ⟨gl, 0, none⟩) ns.length cl, .slice (some ⟨gr, 0, none⟩) ns.length cr, .string t] 69)).heap[w.heap.size]? = _ := heap_alloc_new _ _
    have k1 : ((w.alloc (.cells #[.slice (some ⟨b, o, none⟩) ns.length c, .slice (some ⟨gl, 0, none⟩) ns.length cl, .slice (some ⟨gr, 0, none⟩) ns.length cr, .string t] 69)).alloc (.cells #[.int .i64 3, .slice sao nd.set.length scp, .int .i64 nd.min, .int .i64 nd.max, .int .i64 nd.group] 106)).heap[w.heap.size]? = _ := row_alloc k0
    have k2 : ((w.alloc (.cells #[.slice (some ⟨b, o, none⟩) ns.length c, .slice (some ⟨gl, 0, none⟩) ns.length cl, .slice (some ⟨gr, 0, none⟩) ns.length cr, .string t] 69)).alloc (.cells #[.int .i64 3, .slice sao nd.set.length scp, .int .i64 nd.min, .int .i64 nd.max, .int .i64 nd.group] 106)).heap[w.heap.size + 1]? = some (.cells #[.int .i64 3, .slice sao nd.set.length scp, .int .i64 nd.min, .int .i64 nd.max, .int .i64 nd.group] 106 (0, 0)) := by have := heap_alloc_new (w.alloc (.cells #[.slice (some ⟨b, o, none⟩) ns.length c, .slice (some ⟨gl, 0, none⟩) ns.length cl, .slice (some ⟨gr, 0, none⟩) ns.length cr, .string t] 69)) (.cells #[.int .i64 3, .slice sao nd.set.length scp, .int .i64 nd.min, .int .i64 nd.max, .int .i64 nd.group] 106); simpa using this
    obtain ⟨p0, p1, p2, p3⟩ := row_four k1
    obtain ⟨q0, q1, q2, q3, q4⟩ := row_fiveN k2
    have hb : Below w.heap.size w ((w.alloc (.cells #[.slice (some ⟨b, o, none⟩) ns.length c, .slice (some ⟨gl, 0, none⟩) ns.length cl, .slice (some ⟨gr, 0, none⟩) ns.length cr, .string t] 69)).alloc (.cells #[.int .i64 3, .slice sao nd.set.length scp, .int .i64 nd.min, .int .i64 nd.max, .int .i64 nd.group] 106)) := ((Below.refl _ _).alloc (Nat.le_refl _) _).alloc (by simp) _
    exact ⟨hb.drew, by simp, p0, p1, p2, p3, q0, q1, q2, q3, q4, (hb.cell (p := ⟨gl, n, none⟩) hlt).trans l0, (hb.cell (p := ⟨gr, n, none⟩) hrt).trans r0, hlt, hrt⟩
  have HB0 := H0.1
  go_enter Tryd.func27, Tryd.ntmps27
  go_wp2
  go_region_held3 (fun w' => Below w.heap.size w w' ∧ w.heap.size + 1 < w'.heap.size ∧ w'.cell? ⟨w.heap.size, 0, none⟩ = some (.slice (some ⟨b, o, none⟩) ns.length c) ∧ w'.cell? ⟨w.heap.size, 1, none⟩ = some (.slice (some ⟨gl, 0, none⟩) ns.length cl) ∧ w'.cell? ⟨w.heap.size, 2, none⟩ = some (.slice (some ⟨gr, 0, none⟩) ns.length cr) ∧ w'.cell? ⟨w.heap.size, 3, none⟩ = some (.string t) ∧ w'.cell? ⟨gl, n, none⟩ = some (.int .i64 x) ∧ w'.cell? ⟨gr, n, none⟩ = some (.int .i64 y)) ((first | exact endK_call hlt hrt (by assumption) hb2 | exact endK_call hlt hrt (by assumption) hb3 | exact endK_call hlt hrt (by assumption) hb4 | go_keep)) ((first | (go_at_call 51; refine (or_ok m S2 S3 g2 g3 c2 c3 _ (by first | exact hB2.below hb3 | exact hB2) (by first | exact hB3 | exact hB3.below hb2) hl2 hl3 hm5).mono ?_; rintro e w4 ⟨rfl, hO, hb4⟩) | (go_at_call 27; refine (hX' _ _ (by first | exact HB0 | exact (‹Below w.heap.size w _ ∧ _›).1) ?hz).mono ?_; (case hz => exact rfl); rintro e w2 ⟨g2, c2, S2, rfl, hB2, hl2, hs2, hb2⟩) | (go_at_call 27; refine (hY' _ _ (by first | exact HB0 | exact (‹Below w.heap.size w _ ∧ _›).1) ?hz).mono ?_; (case hz => exact rfl); rintro e w3 ⟨g3, c3, S3, rfl, hB3, hl3, hs3, hb3⟩)))
  all_goals
    have hfin := ‹Below w.heap.size w _ ∧ _›
    go_wp2
    refine bodyPost_ret (v := .slice (some ⟨_, 0, none⟩) m m) (by simp [results, Tryd.results27, go_sem]) rfl ⟨_, m, orL S2 S3, rfl, hO, by rw [orL_len]; exact hl2, (isSet_or hs2 hs3).congr fun j => (ends_alt j).symm, hfin.1⟩

/-- l1Ends at every node of a branch that is well formed. -/
theorem ends_ok (ns : List NodeD) (ha : ∀ i, i < ns.length → arity (kindAt ns i) ≤ (stk ns i).length) (hb : ns.all nodeB = true) : ∀ n, n < ns.length → EndsC ns n := by
  intro n
  induction n using Nat.strongRecOn with
  | ind n ih =>
    intro hn
    have hnode : nodeB (ns.getD n .zero) = true := List.all_eq_true.1 hb (ns.getD n .zero) (by
      rw [List.getD_eq_getElem?_getD, List.getElem?_eq_getElem hn]
      exact List.getElem_mem _)
    have har := ha n hn
    have hkd : kindAt ns n = (ns.getD n .zero).kind := rfl
    by_cases h1 : kindAt ns n = 1
    · refine endsC_set ns n hn h1 ?_
      unfold tOf tnode
      rw [if_pos (by rw [← hkd]; exact h1)]
    by_cases h2 : kindAt ns n = 2
    · obtain ⟨x, y, hL, hR, hx, hy, hT⟩ := tkids_two (ns := ns) (k := n) (by rw [h2]; rfl) (by rw [h2] at har; exact har)
      refine endsC_seq ns n x y hn h2 ?_ hL hR (ih x hx (by omega)) (ih y hy (by omega))
      rw [hT]
      unfold tnode
      rw [if_neg (by rw [← hkd]; exact h1), if_pos (by rw [← hkd]; exact h2)]
      rfl
    by_cases h3 : kindAt ns n = 3
    · obtain ⟨x, y, hL, hR, hx, hy, hT⟩ := tkids_two (ns := ns) (k := n) (by rw [h3]; rfl) (by rw [h3] at har; exact har)
      refine endsC_alt ns n x y hn h3 ?_ hL hR (ih x hx (by omega)) (ih y hy (by omega))
      rw [hT]
      unfold tnode
      rw [if_neg (by rw [← hkd]; exact h1), if_neg (by rw [← hkd]; exact h2), if_pos (by rw [← hkd]; exact h3)]
      rfl
    by_cases h4 : kindAt ns n = 4
    · obtain ⟨x, hL, hx, hT⟩ := tkids_one (ns := ns) (k := n) (by rw [h4]; rfl) (by rw [h4] at har; exact har)
      have hbd : boundsB (ns.getD n .zero).min (ns.getD n .zero).max = true := by
        unfold nodeB at hnode
        rw [if_neg (by rw [← hkd]; exact h1), if_neg (by rw [← hkd]; exact fun h => h.elim h2 h3), if_pos (by rw [← hkd]; exact h4)] at hnode
        simp only [Bool.and_eq_true] at hnode
        exact hnode.1.2
      simp [boundsB] at hbd
      refine endsC_rep ns n x (ns.getD n .zero).min.toNat hn h4 ?_ hL (ih x hx (by omega)) (by simp only [List.getD_eq_getElem?_getD]; omega) (by simp only [List.getD_eq_getElem?_getD]; omega) (by simp only [List.getD_eq_getElem?_getD]; omega)
      rw [hT]
      unfold tnode
      rw [if_neg (by rw [← hkd]; exact h1), if_neg (by rw [← hkd]; exact h2), if_neg (by rw [← hkd]; exact h3), if_pos (by rw [← hkd]; exact h4)]
      have : (((ns.getD n .zero).min.toNat : Nat) : Int) = (ns.getD n .zero).min := by simp only [List.getD_eq_getElem?_getD]; omega
      rw [this]
      rfl
    have h5 : kindAt ns n = 5 := by
      by_cases h5 : kindAt ns n = 5
      · exact h5
      · exfalso
        unfold nodeB at hnode
        rw [if_neg (by rw [← hkd]; exact h1), if_neg (by rw [← hkd]; exact fun h => h.elim h2 h3), if_neg (by rw [← hkd]; exact h4), if_neg (by rw [← hkd]; exact h5)] at hnode
        cases hnode
    obtain ⟨x, hL, hx, hT⟩ := tkids_one (ns := ns) (k := n) (by rw [h5]; rfl) (by rw [h5] at har; exact har)
    refine endsC_grp ns n x hn h5 ?_ hL (ih x hx (by omega))
    rw [hT]
    unfold tnode
    rw [if_neg (by rw [← hkd]; exact h1), if_neg (by rw [← hkd]; exact h2), if_neg (by rw [← hkd]; exact h3), if_neg (by rw [← hkd]; exact h4)]
    rfl
end Go.Proofs.YthgaeaihfbiolaaDoor
