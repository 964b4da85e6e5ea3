import Derived.Test.YtgbdlgogccgciaaMiU
import Derived.Test.YtgbdlgogccgciaaRep
import Derived.Test.YtgbdlgogccgciaaMinJ
namespace Go.Proofs.Ytgbdlgogccgciaa
open Go.RowKit

/- walkBlocks (mathematics): o the blocks, os the states met, nb the blocks' numbers. -/
structure WkI (d : DfaD) (o : List Nat) (os : List Nat) (nb : List Int) : Prop where
  lt : ∀ x ∈ os, x < d.tag.length
  nd : os.Nodup
  nl : nb.length = d.tag.length
  num : ∀ t, t < d.tag.length → nb.getD (o.getD t 0) 0 = if idxA (stN d) (anN d) os t < os.length then (idxA (stN d) (anN d) os t : Int) else -1
theorem WkI.len {d : DfaD} {o os : List Nat} {nb : List Int} (h : WkI d o os nb) : os.length ≤ d.tag.length := nodup_le _ _ h.nd h.lt
theorem getD_set_eq {l : List Int} {i : Nat} {x : Int} (h : i < l.length) : (l.set i x).getD i 0 = x := by
  rw [List.getD_eq_getElem?_getD, List.getElem?_set_self h]; rfl
theorem getD_set_neq {l : List Int} {i j : Nat} {x : Int} (h : i ≠ j) : (l.set i x).getD j 0 = l.getD j 0 := by
  rw [List.getD_eq_getElem?_getD, List.getElem?_set_ne h, List.getD_eq_getElem?_getD]
theorem WkI.start {d : DfaD} {o : List Nat} (hn : 0 < d.tag.length) (ho : ∀ s, s < d.tag.length → o.getD s 0 < d.tag.length) (hA : ∀ s t, s < d.tag.length → t < d.tag.length → (o.getD s 0 = o.getD t 0 ↔ Alike (stN d) (anN d) s t)) :
    WkI d o [0] ((List.replicate d.tag.length (-1 : Int)).set (o.getD 0 0) 0) := by
  refine ⟨fun x hx => by simp at hx; omega, by simp, by simp, fun t ht => ?_⟩
  have h0 := ho 0 hn
  have ht2 := ho t ht
  by_cases e : o.getD 0 0 = o.getD t 0
  · have al := (hA 0 t hn ht).1 e
    have hi : idxA (stN d) (anN d) [0] t = 0 := by simp [idxA, al]
    rw [← e, getD_set_eq (by simpa using h0), hi]
    simp
  · have al : ¬Alike (stN d) (anN d) 0 t := fun k => e ((hA 0 t hn ht).2 k)
    have hi : idxA (stN d) (anN d) [0] t = 1 := by simp [idxA, al]
    rw [getD_set_neq e, hi, List.getD_eq_getElem?_getD, List.getElem?_replicate_of_lt ht2]
    simp
theorem WkI.add {d : DfaD} {o os : List Nat} {nb : List Int} (h : WkI d o os nb) (ho : ∀ s, s < d.tag.length → o.getD s 0 < d.tag.length) (hA : ∀ s t, s < d.tag.length → t < d.tag.length → (o.getD s 0 = o.getD t 0 ↔ Alike (stN d) (anN d) s t)) {x : Nat} (hx : x < d.tag.length) (hn : ¬idxA (stN d) (anN d) os x < os.length) :
    WkI d o (os ++ [x]) (nb.set (o.getD x 0) (os.length : Int)) := by
  have hne : x ∉ os := fun hm => hn (idxA_lt.2 ⟨x, hm, Alike.refl _ _ _⟩)
  refine ⟨fun y hy => ?_, ?_, by rw [List.length_set]; exact h.nl, fun t ht => ?_⟩
  · rcases List.mem_append.1 hy with k | k
    · exact h.lt y k
    · simp at k; omega
  · rw [List.nodup_append]
    exact ⟨h.nd, by simp, fun a ha b hb e => by simp at hb; subst hb; exact hne (e ▸ ha)⟩
  · have hxo := ho x hx
    by_cases e : o.getD x 0 = o.getD t 0
    · have al := (hA x t hx ht).1 e
      have hi : ¬idxA (stN d) (anN d) os t < os.length := fun k => by
        obtain ⟨y, h1, h2⟩ := idxA_lt.1 k
        exact hn (idxA_lt.2 ⟨y, h1, h2.trans al.symm⟩)
      rw [← e, getD_set_eq (by rw [h.nl]; exact hxo), idxA_new hi, if_pos al, if_pos (by simp)]
    · have al : ¬Alike (stN d) (anN d) x t := fun k => e ((hA x t hx ht).2 k)
      rw [getD_set_neq e, h.num t ht]
      by_cases k : idxA (stN d) (anN d) os t < os.length
      · rw [if_pos k, idxA_snoc k, if_pos (by simp; omega)]
      · rw [if_neg k, idxA_new k, if_neg al, if_neg (by simp)]
/-- One byte of the walk. -/
theorem WkI.next {d : DfaD} (hf : DfaFine d) {o : List Nat} {nb : List Int} {k c : Nat} (h : WkI d o (walkA (stN d) (anN d) k c) nb) (hk : k < (walkA (stN d) (anN d) k c).length) (hc : c < 256) (ho : ∀ s, s < d.tag.length → o.getD s 0 < d.tag.length) (hA : ∀ s t, s < d.tag.length → t < d.tag.length → (o.getD s 0 = o.getD t 0 ↔ Alike (stN d) (anN d) s t)) {x : Nat} (hx : stN d ((walkA (stN d) (anN d) k c).getD k 0) c = x) :
    x < d.tag.length ∧ (nb.getD (o.getD x 0) 0 = -1 → walkA (stN d) (anN d) k (c + 1) = walkA (stN d) (anN d) k c ++ [x] ∧ WkI d o (walkA (stN d) (anN d) k c ++ [x]) (nb.set (o.getD x 0) ((walkA (stN d) (anN d) k c).length : Int))) ∧ (nb.getD (o.getD x 0) 0 ≠ -1 → walkA (stN d) (anN d) k (c + 1) = walkA (stN d) (anN d) k c) := by
  have hs := h.lt _ (getD_mem hk)
  have hxn : x < d.tag.length := by rw [← hx]; exact hf.stc hs hc
  have hnum := h.num x hxn
  refine ⟨hxn, fun e => ?_, fun e => ?_⟩
  · have hi : ¬idxA (stN d) (anN d) (walkA (stN d) (anN d) k c) x < (walkA (stN d) (anN d) k c).length := fun k1 => by rw [if_pos k1] at hnum; omega
    exact ⟨by rw [walkA_succ, hx]; unfold addA; rw [if_neg hi], h.add ho hA hxn hi⟩
  · have hi : idxA (stN d) (anN d) (walkA (stN d) (anN d) k c) x < (walkA (stN d) (anN d) k c).length := by
      by_cases k1 : idxA (stN d) (anN d) (walkA (stN d) (anN d) k c) x < (walkA (stN d) (anN d) k c).length
      · exact k1
      · rw [if_neg k1] at hnum; exact absurd hnum e
    rw [walkA_succ, hx]; unfold addA; rw [if_pos hi]

/- ITS STATE: row 0 the states, row 1 the numbers, row 2 the loop's variable. -/
theorem Fam.pick {gt n m : Nat} {W : World} {v : Nat → Value} {l : Nat → List Int} (h : Fam gt n W v l) (f : Nat → Nat) (hf : ∀ i, i < m → f i < n) (hi : ∀ i j, i < m → j < m → i ≠ j → f i ≠ f j) : Fam gt m W (fun i => v (f i)) (fun i => l (f i)) :=
  ⟨fun i h1 => h.own _ (hf i h1), fun i j h1 h2 hne b hb => h.apart _ _ (hf i h1) (hf j h2) (hi i j h1 h2 hne) b hb⟩
structure WbS (w : World) (D : Array Value) (bv : Value) (os : List Nat) (nb : List Int) (k gN : Nat) (v : Nat → Value) (l : Nat → List Int) (W : World) : Prop where
  fam : Fam (w.heap.size + 3) 3 W v l
  l0 : l 0 = intsN os
  l1 : l 1 = nb
  l2 : l 2 = [(k : Int)]
  v2 : v 2 = .slice (some ⟨gN, 0, none⟩) 1 1
  bD : W.heap[w.heap.size]? = some (.cells D 26 (0, 0))
  bB : W.heap[w.heap.size + 1]? = some (.cells #[bv] 22 (0, 0))
  b4 : W.heap[w.heap.size + 1 + 1]? = some (.cells #[v 0] 22 (0, 0))
  b5 : W.heap[w.heap.size + 1 + 1 + 1]? = some (.cells #[v 1] 22 (0, 0))
  be : Below w.heap.size w W
section
variable {w : World} {D : Array Value} {bv : Value} {os : List Nat} {nb : List Int} {k gN : Nat} {v : Nat → Value} {l : Nat → List Int} {W W' : World}
theorem WbS.size (h : WbS w D bv os nb k gN v l W) : w.heap.size + 4 ≤ W.heap.size := by have := row_lt h.b5; omega
theorem WbS.on (h : WbS w D bv os nb k gN v l W) (hb : Below W.heap.size W W') : WbS w D bv os nb k gN v l W' :=
  ⟨h.fam.below hb, h.l0, h.l1, h.l2, h.v2, row_below h.bD hb, row_below h.bB hb, row_below h.b4 hb, row_below h.b5 hb, h.be.trans (hb.mono h.be.size)⟩
/-- It speaks of cells alone. -/
theorem WbS.cells (h : WbS w D bv os nb k gN v l W) (hc : ∀ (b : Nat) (cs : Array Value) (t : TypeId), W.heap[b]? = some (.cells cs t (0, 0)) → W'.heap[b]? = some (.cells cs t (0, 0))) (hb : Below w.heap.size w W') : WbS w D bv os nb k gN v l W' :=
  ⟨h.fam.keepO fun i hi b e => by obtain ⟨cs, h1⟩ := owns_int (h.fam.own i hi) e; rw [hc _ _ _ h1, h1], h.l0, h.l1, h.l2, h.v2, hc _ _ _ h.bD, hc _ _ _ h.bB, hc _ _ _ h.b4, hc _ _ _ h.b5, hb⟩
/-- A state appended. -/
theorem WbS.app (h : WbS w D bv os nb k gN v l W) {u : Value} {x : Nat} (hF : Fam (w.heap.size + 3) 3 W' (upd v 0 u) (updL l 0 (intsN os ++ [(x : Int)]))) (hg : W.grownBy W' (v 0).ownBlock) :
    W'.cell? ⟨w.heap.size + 1 + 1, 0, none⟩ = some (v 0) ∧ W'.frozen? ⟨w.heap.size + 1 + 1, 0, none⟩ = false ∧ WbS w D bv (os ++ [x]) nb k gN (upd v 0 u) (updL l 0 (intsN os ++ [(x : Int)])) (W'.setCell ⟨w.heap.size + 1 + 1, 0, none⟩ u) := by
  have o : ∀ {b : Nat} {cs : Array Value} {e : TypeId}, e ≠ 3 → W.heap[b]? = some (.cells cs e (0, 0)) → W'.heap[b]? = some (.cells cs e (0, 0)) := fun he hb => h.fam.others (i := 0) (by omega) hg he hb
  have x4 := o (by decide) h.b4
  have hs : ∀ {b : Nat} {cs : Array Value} {e : TypeId}, b ≠ w.heap.size + 1 + 1 → W'.heap[b]? = some (.cells cs e (0, 0)) → (W'.setCell ⟨w.heap.size + 1 + 1, 0, none⟩ u).heap[b]? = some (.cells cs e (0, 0)) := fun hb h => (heap_setCell_other _ _ _ _ (by exact hb)).trans h
  refine ⟨by rw [cell_of_row _ _ _ _ _ _ x4]; rfl, frozen_of_row _ _ 0 _ _ x4, hF.other x4 (by decide) (grown_putM _ _ _ _), by rw [updL_same]; simp [intsN], by rw [updL_ne _ _ (by omega)]; exact h.l1, by rw [updL_ne _ _ (by omega)]; exact h.l2, by rw [upd_ne _ _ (by omega)]; exact h.v2, hs (by omega) (o (by decide) h.bD), hs (by omega) (o (by decide) h.bB), ?_, ?_, ?_⟩
  · rw [upd_same]; exact heap_setCell_same _ _ _ _ _ _ x4
  · rw [upd_ne _ _ (by omega)]; exact hs (by omega) (o (by decide) h.b5)
  · exact (h.be.grown hg h.be.size (fun b hb => by have := (owns_block (h.fam.own 0 (by omega)) hb).1; omega)).setCell (p := ⟨w.heap.size + 1 + 1, 0, none⟩) (by show w.heap.size ≤ w.heap.size + 1 + 1; omega) u
/-- A number written. -/
theorem WbS.put (h : WbS w D bv os nb k gN v l W) {g5 m5 c5 j : Nat} (hv : v 1 = .slice (some ⟨g5, 0, none⟩) m5 c5) (hm : nb.length = m5) (y : Int) : WbS w D bv os (nb.set j y) k gN v (updL l 1 (nb.set j y)) (W.setCell ⟨g5, j, none⟩ (.int .i64 y)) := by
  have hF := h.fam.put (i := 1) (by omega) hv (by rw [h.l1]; exact hm) j y
  rw [h.l1] at hF
  obtain ⟨cs, hc⟩ := owns_int (h.fam.own 1 (by omega)) (b := g5) (by rw [hv]; rfl)
  have hs : ∀ {b : Nat} {cs : Array Value} {e : TypeId}, e ≠ 3 → W.heap[b]? = some (.cells cs e (0, 0)) → (W.setCell ⟨g5, j, none⟩ (.int .i64 y)).heap[b]? = some (.cells cs e (0, 0)) := fun he hb => (heap_setCell_other _ _ _ _ (fun e2 => by
    have e3 : _ = g5 := e2
    rw [e3, hc] at hb
    exact he (cells_typeM hb).symm)).trans hb
  have hge := (owns_block (h.fam.own 1 (by omega)) (b := g5) (by rw [hv]; rfl)).1
  exact ⟨hF, by rw [updL_ne _ _ (by omega)]; exact h.l0, updL_same _ _ _, by rw [updL_ne _ _ (by omega)]; exact h.l2, h.v2, hs (by decide) h.bD, hs (by decide) h.bB, hs (by decide) h.b4, hs (by decide) h.b5, h.be.setCell (p := ⟨g5, j, none⟩) (by show w.heap.size ≤ g5; omega) _⟩
/-- The loop's variable, a box anew. -/
theorem WbS.turn (h : WbS w D bv os nb k gN v l W) (k' : Nat) : WbS w D bv os nb k' W.heap.size (fun i => if i = 2 then .slice (some ⟨W.heap.size, 0, none⟩) 1 1 else v i) (fun i => if i = 2 then [(k' : Int)] else l i) (W.alloc (.cells #[.int .i64 (k' : Int)] 3)) := by
  have hb : Below W.heap.size W (W.alloc (.cells #[.int .i64 (k' : Int)] 3)) := (Below.refl _ _).alloc (Nat.le_refl _) _
  have h' := h.on hb
  have hsz := h.size
  have hnew := own_one (B := w.heap.size + 3 + 1) (heap_alloc_new W (.cells #[.int .i64 (k' : Int)] 3)) (by omega)
  refine ⟨⟨fun i hi => ?_, fun i j hi hj hne b hb => ?_⟩, h.l0, h.l1, rfl, rfl, h'.bD, h'.bB, h'.b4, h'.b5, h'.be⟩
  · by_cases e : i = 2
    · simp only [if_pos e]; exact hnew
    · simp only [if_neg e]; exact h'.fam.own i hi
  · by_cases e : i = 2
    · simp only [if_pos e] at hb
      simp [Value.ownBlock] at hb
      have e2 : ¬j = 2 := by omega
      simp only [if_neg e2]
      intro hc
      have := (owns_block (h.fam.own j hj) hc).2
      omega
    · simp only [if_neg e] at hb
      by_cases e2 : j = 2
      · simp only [if_pos e2]
        intro hc
        simp [Value.ownBlock] at hc
        have := (owns_block (h.fam.own i hi) hb).2
        omega
      · simp only [if_neg e2]
        exact h.fam.apart i j hi hj hne b hb
/-- The loop's variable written. -/
theorem WbS.step (h : WbS w D bv os nb k gN v l W) (k' : Nat) : WbS w D bv os nb k' gN v (updL l 2 [(k' : Int)]) (W.setCell ⟨gN, 0, none⟩ (.int .i64 (k' : Int))) := by
  have hF := h.fam.put (i := 2) (by omega) h.v2 (by rw [h.l2]; rfl) 0 (k' : Int)
  rw [h.l2] at hF
  obtain ⟨cs, hc⟩ := owns_int (h.fam.own 2 (by omega)) (b := gN) (by rw [h.v2]; rfl)
  have hs : ∀ {b : Nat} {cs : Array Value} {e : TypeId}, e ≠ 3 → W.heap[b]? = some (.cells cs e (0, 0)) → (W.setCell ⟨gN, 0, none⟩ (.int .i64 (k' : Int))).heap[b]? = some (.cells cs e (0, 0)) := fun he hb => (heap_setCell_other _ _ _ _ (fun e2 => by
    have e3 : _ = gN := e2
    rw [e3, hc] at hb
    exact he (cells_typeM hb).symm)).trans hb
  have hge := (owns_block (h.fam.own 2 (by omega)) (b := gN) (by rw [h.v2]; rfl)).1
  exact ⟨hF, by rw [updL_ne _ _ (by omega)]; exact h.l0, by rw [updL_ne _ _ (by omega)]; exact h.l1, updL_same _ _ _, h.v2, hs (by decide) h.bD, hs (by decide) h.bB, hs (by decide) h.b4, hs (by decide) h.b5, h.be.setCell (p := ⟨gN, 0, none⟩) (by show w.heap.size ≤ gN; omega) _⟩
end
/-- One row of one number more. -/
theorem Fam.one {gt n : Nat} {W : World} {v : Nat → Value} {l : Nat → List Int} (h : Fam gt n W v l) (hB : gt + 1 ≤ W.heap.size) (x : Int) : Fam gt (n + 1) (W.alloc (.cells #[.int .i64 x] 3)) (upd v n (.slice (some ⟨W.heap.size, 0, none⟩) 1 1)) (updL l n [x]) := by
  have hb : Below W.heap.size W (W.alloc (.cells #[.int .i64 x] 3)) := (Below.refl _ _).alloc (Nat.le_refl _) _
  refine ⟨fun i hi => ?_, fun i j hi hj hne b hbi => ?_⟩
  · by_cases e : i = n
    · subst e
      rw [upd_same, updL_same]
      exact own_one (heap_alloc_new _ _) hB
    · rw [upd_ne _ _ e, updL_ne _ _ e]
      exact (h.below hb).own i (by omega)
  · by_cases e : i = n
    · subst e
      rw [upd_same] at hbi
      simp [Value.ownBlock] at hbi
      rw [upd_ne _ _ (Ne.symm hne)]
      intro hc
      have := (owns_block (h.own j (by omega)) hc).2
      omega
    · rw [upd_ne _ _ e] at hbi
      by_cases e2 : j = n
      · subst e2
        rw [upd_same]
        intro hc
        simp [Value.ownBlock] at hc
        have := (owns_block (h.own i (by omega)) hbi).2
        omega
      · rw [upd_ne _ _ e2]
        exact h.apart i j (by omega) (by omega) hne b hbi
theorem repL_full (x : Int) (n : Nat) : repL x n n = (List.replicate n x).map intV := by
  apply List.ext_getElem?
  intro i
  by_cases h : i < n
  · rw [repL_get x h]; simp [h, intV]
  · rw [List.getElem?_eq_none (by rw [repL_len]; omega), List.getElem?_eq_none (by simp; omega)]
theorem WbS.start {w w3 : World} {D : Array Value} {bv : Value} {n g5 x0 : Nat} (nq : Nat) (hD : w3.heap[w.heap.size]? = some (.cells D 26 (0, 0))) (hB : w3.heap[w.heap.size + 1]? = some (.cells #[bv] 22 (0, 0))) (h4 : w3.heap[w.heap.size + 1 + 1]? = some (.cells #[.slice none 0 0] 22 (0, 0))) (h5 : w3.heap[w.heap.size + 1 + 1 + 1]? = some (.cells #[.slice none 0 0] 22 (0, 0)))
    (hr : w3.heap[g5]? = some (.cells (repL (-1) n n).toArray 3 (0, 0))) (hg5 : w.heap.size + 4 ≤ g5) (hbe : Below w.heap.size w w3) (hn : n ≤ 4000) :
    ∃ v l, v 1 = .slice (some ⟨g5, 0, none⟩) n n ∧ WbS w D bv [0] ((List.replicate n (-1 : Int)).set x0 0) 0 (w3.heap.size + 1) v l ((((((w3.setCell ⟨w.heap.size + 1 + 1 + 1, 0, none⟩ (.slice (some ⟨g5, 0, none⟩) n n)).alloc (.cells #[.int .i64 0] 3)).setCell ⟨w.heap.size + 1 + 1, 0, none⟩ (.slice (some ⟨w3.heap.size, 0, none⟩) 1 1)).drewN nq).setCell ⟨g5, x0, none⟩ (.int .i64 0)).alloc (.cells #[.int .i64 0] 3)) := by
  have hl5 := row_lt hr
  have hF0 : Fam (w.heap.size + 3) 1 w3 (fun _ => .slice (some ⟨g5, 0, none⟩) n n) (fun _ => List.replicate n (-1 : Int)) := by
    refine ⟨fun i hi => ?_, fun i j hi hj hne => by omega⟩
    unfold Owns
    rw [← repL_full, List.length_replicate]
    exact ⟨by rw [repL_len]; omega, .inr ⟨g5, n, _, rfl, by omega, hr, Nat.le_refl _, by unfold maxLen; omega, by simp [repL_len], by rw [List.take_of_length_le (by simp [repL_len])]⟩⟩
  have hF1 := hF0.other h5 (by decide) (grown_putM w3 (w.heap.size + 1 + 1 + 1) 0 (.slice (some ⟨g5, 0, none⟩) n n))
  have h51 := heap_setCell_same w3 (w.heap.size + 1 + 1 + 1) 0 _ _ (.slice (some ⟨g5, 0, none⟩) n n) h5
  have o1 : ∀ {b : Nat} {ob : Obj}, b ≠ w.heap.size + 1 + 1 + 1 → w3.heap[b]? = some ob → (w3.setCell ⟨w.heap.size + 1 + 1 + 1, 0, none⟩ (.slice (some ⟨g5, 0, none⟩) n n)).heap[b]? = some ob := fun hb h => (heap_setCell_other _ _ _ _ (by exact hb)).trans h
  have h41 := o1 (by omega) h4
  have hD1 := o1 (by omega) hD
  have hB1 := o1 (by omega) hB
  have e1 : (w3.setCell ⟨w.heap.size + 1 + 1 + 1, 0, none⟩ (.slice (some ⟨g5, 0, none⟩) n n)).heap.size = w3.heap.size := by simp [World.setCell]
  have hb1 : Below w.heap.size w (w3.setCell ⟨w.heap.size + 1 + 1 + 1, 0, none⟩ (.slice (some ⟨g5, 0, none⟩) n n)) := hbe.setCell (p := ⟨w.heap.size + 1 + 1 + 1, 0, none⟩) (by show w.heap.size ≤ w.heap.size + 1 + 1 + 1; omega) _
  generalize w3.setCell ⟨w.heap.size + 1 + 1 + 1, 0, none⟩ (.slice (some ⟨g5, 0, none⟩) n n) = Wa at *
  have bb : Below Wa.heap.size Wa (Wa.alloc (.cells #[.int .i64 0] 3)) := (Below.refl _ _).alloc (Nat.le_refl _) _
  have hF2 := hF1.one (by omega) 0
  have e1b : (Wa.alloc (.cells #[.int .i64 0] 3)).heap.size = w3.heap.size + 1 := by simp [e1]
  have h41b := row_below h41 bb
  have h51b := row_below h51 bb
  have hD1b := row_below hD1 bb
  have hB1b := row_below hB1 bb
  have hb1b := hb1.trans (bb.mono hb1.size)
  rw [e1] at hF2
  generalize Wa.alloc (.cells #[.int .i64 0] 3) = Wb at *
  have hF3 := hF2.other h41b (by decide) (grown_putM Wb (w.heap.size + 1 + 1) 0 (.slice (some ⟨w3.heap.size, 0, none⟩) 1 1))
  have h42 := heap_setCell_same Wb (w.heap.size + 1 + 1) 0 _ _ (.slice (some ⟨w3.heap.size, 0, none⟩) 1 1) h41b
  have o2 : ∀ {b : Nat} {ob : Obj}, b ≠ w.heap.size + 1 + 1 → Wb.heap[b]? = some ob → (Wb.setCell ⟨w.heap.size + 1 + 1, 0, none⟩ (.slice (some ⟨w3.heap.size, 0, none⟩) 1 1)).heap[b]? = some ob := fun hb h => (heap_setCell_other _ _ _ _ (by exact hb)).trans h
  have h52 := o2 (by omega) h51b
  have hD2 := o2 (by omega) hD1b
  have hB2 := o2 (by omega) hB1b
  have e2 : (Wb.setCell ⟨w.heap.size + 1 + 1, 0, none⟩ (.slice (some ⟨w3.heap.size, 0, none⟩) 1 1)).heap.size = w3.heap.size + 1 := by simp [World.setCell, e1b]
  have hb2 : Below w.heap.size w (Wb.setCell ⟨w.heap.size + 1 + 1, 0, none⟩ (.slice (some ⟨w3.heap.size, 0, none⟩) 1 1)) := hb1b.setCell (p := ⟨w.heap.size + 1 + 1, 0, none⟩) (by show w.heap.size ≤ w.heap.size + 1 + 1; omega) _
  generalize Wb.setCell ⟨w.heap.size + 1 + 1, 0, none⟩ (.slice (some ⟨w3.heap.size, 0, none⟩) 1 1) = Wx at *
  have bb2 : Below Wx.heap.size Wx (Wx.drewN nq) := below_drewN (Below.refl _ _) nq
  have hF4 := hF3.below bb2
  have e3 : (Wx.drewN nq).heap.size = w3.heap.size + 1 := e2
  have h53 := row_below h52 bb2
  have hD3 := row_below hD2 bb2
  have hB3 := row_below hB2 bb2
  have h43 := row_below h42 bb2
  have hb3 := hb2.trans (bb2.mono hb2.size)
  generalize Wx.drewN nq = Wc at *
  have hF5 := hF4.put (i := 0) (by omega) (g := g5) (m := n) (cap := n) (by rw [upd_ne _ _ (by omega)]) (by rw [updL_ne _ _ (by omega)]; simp) x0 0
  obtain ⟨cs, hc5⟩ := owns_int (hF4.own 0 (by omega)) (b := g5) (by rw [upd_ne _ _ (by omega)]; rfl)
  have o3 : ∀ {b : Nat} {ob : Obj}, b ≠ g5 → Wc.heap[b]? = some ob → (Wc.setCell ⟨g5, x0, none⟩ (.int .i64 0)).heap[b]? = some ob := fun hb h => (heap_setCell_other _ _ _ _ (by exact hb)).trans h
  have e4 : (Wc.setCell ⟨g5, x0, none⟩ (.int .i64 0)).heap.size = w3.heap.size + 1 := by simp [World.setCell, e3]
  have hb4 : Below w.heap.size w (Wc.setCell ⟨g5, x0, none⟩ (.int .i64 0)) := hb3.setCell (p := ⟨g5, x0, none⟩) (by show w.heap.size ≤ g5; omega) _
  have h54 := o3 (by omega) h53
  have hD4 := o3 (by omega) hD3
  have hB4 := o3 (by omega) hB3
  have h44 := o3 (by omega) h43
  generalize Wc.setCell ⟨g5, x0, none⟩ (.int .i64 0) = Wd at *
  have hF6 := hF5.one (by omega) 0
  have bb3 : Below Wd.heap.size Wd (Wd.alloc (.cells #[.int .i64 0] 3)) := (Below.refl _ _).alloc (Nat.le_refl _) _
  have hF7 := hF6.pick (m := 3) (fun i => if i = 0 then 1 else if i = 1 then 0 else 2) (fun i hi => by split <;> first | omega | (split <;> omega)) (fun i j hi hj hne => by
    have : i = 0 ∨ i = 1 ∨ i = 2 := by omega
    have : j = 0 ∨ j = 1 ∨ j = 2 := by omega
    rcases ‹i = 0 ∨ i = 1 ∨ i = 2› with rfl | rfl | rfl <;> rcases ‹j = 0 ∨ j = 1 ∨ j = 2› with rfl | rfl | rfl <;> first | omega | decide)
  refine ⟨_, _, ?_, hF7, ?_, ?_, ?_, ?_, row_below hD4 bb3, row_below hB4 bb3, ?_, ?_, hb4.trans (bb3.mono hb4.size)⟩
  · rfl
  · rfl
  · show updL (updL _ _ _) 2 _ 0 = _
    rw [updL_ne _ _ (by omega), updL_same, updL_ne _ _ (by omega)]
  · rfl
  · show Value.slice (some ⟨Wd.heap.size, 0, none⟩) 1 1 = _; rw [e4]
  · exact row_below h44 bb3
  · exact row_below h54 bb3
end Go.Proofs.Ytgbdlgogccgciaa
