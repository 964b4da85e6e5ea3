import Derived.Test.YtgbdlgogccgciaaMinQ
import Derived.Test.YtgbdlgogccgciaaMiY
import Derived.Test.YtgbdlgogccgciaaMinJ
import Derived.Test.YtgbdlgogccgciaaWithinDfaI
namespace Go.Proofs.Ytgbdlgogccgciaa
open Go.RowKit
attribute [local go_sem ↓] Go.wp_at_zero Go.wp_at_succ

set_option maxRecDepth 100000 in
set_option maxHeartbeats 4000000 in
theorem specMinimize_bad {lo : Nat} (cv nv tv ev : Value) (d : DfaD) (w : World) (hs : DfaAt lo w cv nv tv ev d) (hB : dfaB d = false) :
    Calls Try.prog 5 #[.agg #[cv, .int .i64 d.width, nv, tv, ev]] w (MinAns w 0 (fun _ => [])) := by
  obtain ⟨W0, hW0⟩ : ∃ W0, (w.alloc (.cells #[cv, .int .i64 d.width, nv, tv, ev] 26)).alloc (.cells zeroD 26) = W0 := ⟨_, rfl⟩
  have hb0 : Below w.heap.size w W0 := by rw [← hW0]; exact ((Below.refl _ _).alloc (Nat.le_refl _) _).alloc (by simp) _
  have x0 : W0.heap[w.heap.size]? = some (.cells #[cv, .int .i64 d.width, nv, tv, ev] 26 (0, 0)) := by
    rw [← hW0]
    exact (Below.heap_alloc _ _ _ (by simp)).trans (heap_alloc_new w _)
  have z0 : W0.heap[w.heap.size + 1]? = some (.cells zeroD 26 (0, 0)) := by
    rw [← hW0]
    have := heap_alloc_new (w.alloc (.cells #[cv, .int .i64 d.width, nv, tv, ev] 26)) (.cells zeroD 26)
    simpa using this
  have hT := specDfaOK_ok cv nv tv ev d _ (hs.below hb0)
  rw [hB] at hT
  unfold zeroD at hW0
  obtain ⟨q0, q1, q2, q3, q4⟩ := row_five x0
  go_enter Try.func5, Try.ntmps5
  go_wp2_with fail
  refine hT.mono ?_
  rintro e w1 ⟨rfl, hb1⟩
  have z1 := row_below z0 hb1
  have B1 := below_step hb0 hb0.size hb1
  have fz : ∀ o, w1.frozen? ⟨w.heap.size + 1, o, none⟩ = false := fun _ => frozen_of_row _ _ _ _ _ z1
  unfold zeroD at z1
  obtain ⟨y0, y1, y2, y3, y4⟩ := row_five z1
  clear hT x0 z0 hb0 hb1 z1 q0 q1 q2 q3 q4 hW0
  go_wp2
  refine bodyPost_ret (v := .agg #[.slice none 0 0, .int .i64 0, .slice none 0 0, .slice none 0 0, .slice none 0 0]) (by simp [results, Try.results5, go_sem, y0, y1, y2, y3, y4]) rfl ?_
  exact ⟨w.heap.size, fun _ => .slice none 0 0, rfl, Nat.le_refl _, Fam.nil _ _ _, below_set5 B1 (by omega) _ _ _ _ _⟩
end Go.Proofs.Ytgbdlgogccgciaa
namespace Go.Proofs.Ytgbdlgogccgciaa
open Go.RowKit
attribute [local go_sem ↓] Go.wp_at_zero Go.wp_at_succ

set_option maxRecDepth 100000 in
set_option maxHeartbeats 4000000 in
theorem implMinimize_bad {lo : Nat} (cv nv tv ev : Value) (d : DfaD) (w : World) (hs : DfaAt lo w cv nv tv ev d) (hsm : DfaSmall d) (hB : dfaB d = false) :
    Calls Try.prog 7 #[.agg #[cv, .int .i64 d.width, nv, tv, ev]] w (MinAns w 0 (fun _ => [])) := by
  obtain ⟨W0, hW0⟩ : ∃ W0, (w.alloc (.cells #[cv, .int .i64 d.width, nv, tv, ev] 26)).alloc (.cells zeroD 26) = W0 := ⟨_, rfl⟩
  have hb0 : Below w.heap.size w W0 := by rw [← hW0]; exact ((Below.refl _ _).alloc (Nat.le_refl _) _).alloc (by simp) _
  have x0 : W0.heap[w.heap.size]? = some (.cells #[cv, .int .i64 d.width, nv, tv, ev] 26 (0, 0)) := by
    rw [← hW0]
    exact (Below.heap_alloc _ _ _ (by simp)).trans (heap_alloc_new w _)
  have z0 : W0.heap[w.heap.size + 1]? = some (.cells zeroD 26 (0, 0)) := by
    rw [← hW0]
    have := heap_alloc_new (w.alloc (.cells #[cv, .int .i64 d.width, nv, tv, ev] 26)) (.cells zeroD 26)
    simpa using this
  have hT := implDfaOK_ok cv nv tv ev d _ (hs.below hb0) hsm
  rw [hB] at hT
  unfold zeroD at hW0
  obtain ⟨q0, q1, q2, q3, q4⟩ := row_five x0
  go_enter Try.func7, Try.ntmps7
  go_wp2_with fail
  refine hT.mono ?_
  rintro e w1 ⟨rfl, hb1⟩
  have z1 := row_below z0 hb1
  have B1 := below_step hb0 hb0.size hb1
  have fz : ∀ o, w1.frozen? ⟨w.heap.size + 1, o, none⟩ = false := fun _ => frozen_of_row _ _ _ _ _ z1
  unfold zeroD at z1
  obtain ⟨y0, y1, y2, y3, y4⟩ := row_five z1
  clear hT x0 z0 hb0 hb1 z1 q0 q1 q2 q3 q4 hW0
  go_wp2
  refine bodyPost_ret (v := .agg #[.slice none 0 0, .int .i64 0, .slice none 0 0, .slice none 0 0, .slice none 0 0]) (by simp [results, Try.results7, go_sem, y0, y1, y2, y3, y4]) rfl ?_
  exact ⟨w.heap.size, fun _ => .slice none 0 0, rfl, Nat.le_refl _, Fam.nil _ _ _, below_set5 B1 (by omega) _ _ _ _ _⟩

set_option maxRecDepth 100000 in
set_option maxHeartbeats 4000000 in
theorem implMinimize_t {lo : Nat} (cv nv tv ev : Value) (d : DfaD) (w : World) (hs : DfaAt lo w cv nv tv ev d) (hsm : DfaSmall d) (hB : dfaB d = true) :
    Calls Try.prog 7 #[.agg #[cv, .int .i64 d.width, nv, tv, ev]] w (MinP w d) := by
  obtain ⟨W0, hW0⟩ : ∃ W0, (w.alloc (.cells #[cv, .int .i64 d.width, nv, tv, ev] 26)).alloc (.cells zeroD 26) = W0 := ⟨_, rfl⟩
  have hb0 : Below w.heap.size w W0 := by rw [← hW0]; exact ((Below.refl _ _).alloc (Nat.le_refl _) _).alloc (by simp) _
  have x0 : W0.heap[w.heap.size]? = some (.cells #[cv, .int .i64 d.width, nv, tv, ev] 26 (0, 0)) := by
    rw [← hW0]
    exact (Below.heap_alloc _ _ _ (by simp)).trans (heap_alloc_new w _)
  have z0 : W0.heap[w.heap.size + 1]? = some (.cells zeroD 26 (0, 0)) := by
    rw [← hW0]
    have := heap_alloc_new (w.alloc (.cells #[cv, .int .i64 d.width, nv, tv, ev] 26)) (.cells zeroD 26)
    simpa using this
  have hT := implDfaOK_ok cv nv tv ev d _ (hs.below hb0) hsm
  rw [hB] at hT
  unfold zeroD at hW0
  obtain ⟨q0, q1, q2, q3, q4⟩ := row_five x0
  go_enter Try.func7, Try.ntmps7
  go_wp2_with fail
  refine hT.mono ?_
  rintro e w1 ⟨rfl, hb1⟩
  have z1 := row_below z0 hb1
  have x1 := row_below x0 hb1
  have B1 := below_step hb0 hb0.size hb1
  clear hT x0 z0 hb0 hb1 q0 q1 q2 q3 q4 hW0
  obtain ⟨q0, q1, q2, q3, q4⟩ := row_five x1
  have hM := minimal_ok cv nv tv ev d w1 ((hs.below B1).low (Nat.zero_le _)) (dfaB_fine hB)
  go_wp2_with fail
  refine hM.mono ?_
  rintro e w2 ⟨K, hG, hK, gt, v, rfl, hgt, hF, hb2⟩
  have HG : Hid _ := hG
  have HK : Hid _ := hK
  have z2 := row_below z1 hb2
  have hl2 := row_lt z1
  have B2 := below_step B1 B1.size hb2
  clear hM q0 q1 q2 q3 q4 hG hK x1 z1 hb2
  have fz : ∀ o, w2.frozen? ⟨w.heap.size + 1, o, none⟩ = false := fun _ => frozen_of_row _ _ _ _ _ z2
  unfold zeroD at z2
  obtain ⟨y0, y1, y2, y3, y4⟩ := row_five z2
  obtain ⟨⟨a0, p0⟩, e0⟩ := owns_formD (hF.own 0 (by omega))
  obtain ⟨⟨a1, p1⟩, e1⟩ := owns_formD (hF.own 1 (by omega))
  obtain ⟨⟨a2, p2⟩, e2⟩ := owns_formD (hF.own 2 (by omega))
  obtain ⟨⟨a3, p3⟩, e3⟩ := owns_formD (hF.own 3 (by omega))
  have Hrow : Hid (rowD ((headsF K (rwA d) 256).length : Int) v = #[.slice a0 (mnL d K 0).length p0, .int .i64 ((headsF K (rwA d) 256).length : Int), .slice a1 (mnL d K 1).length p1, .slice a2 (mnL d K 2).length p2, .slice a3 (mnL d K 3).length p3]) := by
    show _ = _
    unfold rowD
    rw [e0, e1, e2, e3]
  have HFE : Hid (Fam gt 4 (set5 w2 (w.heap.size + 1) (.slice a0 (mnL d K 0).length p0) (.int .i64 ((headsF K (rwA d) 256).length : Int)) (.slice a1 (mnL d K 1).length p1) (.slice a2 (mnL d K 2).length p2) (.slice a3 (mnL d K 3).length p3)) v (mnL d K)) := hF.set5 (by omega) _ _ _ _ _
  have HBE : Hid (Below w.heap.size w (set5 w2 (w.heap.size + 1) (.slice a0 (mnL d K 0).length p0) (.int .i64 ((headsF K (rwA d) 256).length : Int)) (.slice a1 (mnL d K 1).length p1) (.slice a2 (mnL d K 2).length p2) (.slice a3 (mnL d K 3).length p3))) := below_set5 B2 (by omega) _ _ _ _ _
  have hwm : w.heap.size ≤ gt := by have := B1.size; omega
  rw [Hrow.out]
  clear e0 e1 e2 e3 hF B1 B2 z2 hl2 hgt
  generalize (mnL d K 0).length = n0 at *
  generalize (mnL d K 1).length = n1 at *
  generalize (mnL d K 2).length = n2 at *
  generalize (mnL d K 3).length = n3 at *
  generalize hh : (headsF K (rwA d) 256).length = hn at *
  have Hh : Hid _ := hh
  clear hh
  go_wp2
  refine bodyPost_ret (v := .agg #[.slice a0 n0 p0, .int .i64 (hn : Int), .slice a1 n1 p1, .slice a2 n2 p2, .slice a3 n3 p3]) (by simp [results, Try.results7, go_sem, y0, y1, y2, y3, y4]) rfl ?_
  exact ⟨K, HG.out, HK.out, gt, v, by rw [Hh.out, Hrow.out], hwm, HFE.out, HBE.out⟩

/- THE NUMBER OF STATES THAT ARE LEFT: one for both sides. -/
theorem addA_fine {st : Nat → Nat → Nat} {an : Nat → Int × Int} {n x : Nat} {os : List Nat} (h : os.Nodup ∧ ∀ y ∈ os, y < n) (hx : x < n) : (addA st an os x).Nodup ∧ ∀ y ∈ addA st an os x, y < n := by
  unfold addA
  split
  · exact h
  · rename_i hn
    have hm : x ∉ os := fun hm => hn (idxA_lt.2 ⟨x, hm, Alike.refl _ _ _⟩)
    refine ⟨List.nodup_append.2 ⟨h.1, by simp, fun a ha b hb => ?_⟩, fun y hy => ?_⟩
    · intro e; subst e; simp at hb; subst hb; exact hm ha
    · rcases List.mem_append.1 hy with hy | hy
      · exact h.2 y hy
      · simp at hy; omega
theorem getD_fine {n : Nat} {os : List Nat} (h : ∀ y ∈ os, y < n) (hn : 0 < n) (k : Nat) : os.getD k 0 < n := by
  by_cases hk : k < os.length
  · rw [List.getD_eq_getElem?_getD, List.getElem?_eq_getElem hk]; exact h _ (List.getElem_mem hk)
  · rw [List.getD_eq_getElem?_getD, List.getElem?_eq_none (by omega)]; exact hn
theorem walkA_cfine {d : DfaD} (hf : DfaFine d) (hn : 0 < d.tag.length) (k : Nat) (h0 : (walkA (stN d) (anN d) k 0).Nodup ∧ ∀ y ∈ walkA (stN d) (anN d) k 0, y < d.tag.length) : ∀ c, c ≤ 256 → (walkA (stN d) (anN d) k c).Nodup ∧ ∀ y ∈ walkA (stN d) (anN d) k c, y < d.tag.length
  | 0, _ => h0
  | c + 1, hc => by
    have ih := walkA_cfine hf hn k h0 c (by omega)
    rw [walkA_succ]
    exact addA_fine ih (hf.stc (getD_fine ih.2 hn k) (by omega))
theorem walkA_fine {d : DfaD} (hf : DfaFine d) (hn : 0 < d.tag.length) : ∀ k, (walkA (stN d) (anN d) k 0).Nodup ∧ ∀ y ∈ walkA (stN d) (anN d) k 0, y < d.tag.length
  | 0 => by rw [walkA_zero]; exact ⟨by simp, fun y hy => by simp at hy; omega⟩
  | k + 1 => by rw [walkA_row]; exact walkA_cfine hf hn k (walkA_fine hf hn k) 256 (by omega)
open Classical in
noncomputable def minK (d : DfaD) : Nat := if h : ∃ K, Going (stN d) (anN d) K ∧ (walkA (stN d) (anN d) K 0).length = K then Classical.choose h else 0
theorem minK_eq {d : DfaD} {K : Nat} (h1 : Going (stN d) (anN d) K) (h2 : (walkA (stN d) (anN d) K 0).length = K) : minK d = K := by
  have h : ∃ K, Going (stN d) (anN d) K ∧ (walkA (stN d) (anN d) K 0).length = K := ⟨K, h1, h2⟩
  unfold minK
  rw [dif_pos h]
  have hc := Classical.choose_spec h
  exact going_end hc.1 hc.2 h1 h2
theorem minK_len {d : DfaD} (hf : DfaFine d) (hn : 0 < d.tag.length) : (walkA (stN d) (anN d) (minK d) 0).length ≤ d.tag.length := nodup_le _ _ (walkA_fine hf hn _).1 (walkA_fine hf hn _).2
theorem minK_le {d : DfaD} (hf : DfaFine d) (hn : 0 < d.tag.length) : minK d ≤ d.tag.length := by
  by_cases h : ∃ K, Going (stN d) (anN d) K ∧ (walkA (stN d) (anN d) K 0).length = K
  · obtain ⟨K, h1, h2⟩ := h
    have := minK_len hf hn
    rw [minK_eq h1 h2] at this ⊢
    omega
  · unfold minK; rw [dif_neg h]; omega
noncomputable def minW (d : DfaD) : Int := if dfaB d = true then ((headsF (minK d) (rwA d) 256).length : Int) else 0
noncomputable def minL (d : DfaD) : Nat → List Int := if dfaB d = true then mnL d (minK d) else fun _ => []
theorem flat_len (f : Nat → List Int) (m : Nat) (hf : ∀ k, (f k).length ≤ m) : ∀ n, ((List.range n).flatMap f).length ≤ n * m
  | 0 => by simp
  | n + 1 => by
    have := flat_len f m hf n
    have := hf n
    rw [List.range_succ, List.flatMap_append, List.length_append, Nat.succ_mul]
    have e : ([n].flatMap f).length = (f n).length := by simp only [List.flatMap_cons, List.flatMap_nil, List.append_nil]
    rw [e]
    omega
theorem minL_len (d : DfaD) : ∀ i, i < 4 → (minL d i).length ≤ 1048576 := by
  intro i hi
  unfold minL
  cases hB : dfaB d
  · simp
  · have hf := dfaB_fine hB
    have hn := hf.n1
    have hn2 := hf.n2
    have hk := minK_le hf (by omega)
    have hl := minK_len hf (by omega)
    have hh := heads_len (minK d) (rwA d) 256
    rw [if_pos rfl]
    match i, hi with
    | 0, _ => simp [mnL]
    | 1, _ =>
      have h1 : (mnL d (minK d) 1).length ≤ minK d * 256 := by
        unfold mnL
        exact flat_len _ 256 (fun k => by simp; exact hh) _
      omega
    | 2, _ => simp only [mnL, List.length_map]; omega
    | 3, _ => simp only [mnL, List.length_map]; omega
theorem minP_ans {w w' : World} {d : DfaD} {e : Ending} (hB : dfaB d = true) (h : MinP w d e w') : MinAns w (minW d) (minL d) e w' := by
  obtain ⟨K, h1, h2, h3⟩ := h
  unfold minW minL
  rw [if_pos hB, if_pos hB, minK_eq h1 h2]
  exact h3
theorem specMinimize_ok {lo : Nat} (cv nv tv ev : Value) (d : DfaD) (w : World) (hs : DfaAt lo w cv nv tv ev d) :
    Calls Try.prog 5 #[.agg #[cv, .int .i64 d.width, nv, tv, ev]] w (MinAns w (minW d) (minL d)) := by
  cases hB : dfaB d
  · unfold minW minL
    rw [hB, if_neg (by decide), if_neg (by decide)]
    exact specMinimize_bad cv nv tv ev d w hs hB
  · exact (specMinimize_t cv nv tv ev d w hs hB).mono fun e w' h => minP_ans hB h
theorem implMinimize_ok {lo : Nat} (cv nv tv ev : Value) (d : DfaD) (w : World) (hs : DfaAt lo w cv nv tv ev d) (hsm : DfaSmall d) :
    Calls Try.prog 7 #[.agg #[cv, .int .i64 d.width, nv, tv, ev]] w (MinAns w (minW d) (minL d)) := by
  cases hB : dfaB d
  · unfold minW minL
    rw [hB, if_neg (by decide), if_neg (by decide)]
    exact implMinimize_bad cv nv tv ev d w hs hsm hB
  · exact (implMinimize_t cv nv tv ev d w hs hsm hB).mono fun e w' h => minP_ans hB h
end Go.Proofs.Ytgbdlgogccgciaa
