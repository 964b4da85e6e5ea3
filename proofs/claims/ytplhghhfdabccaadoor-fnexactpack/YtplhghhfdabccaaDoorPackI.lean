import Derived.Test.YtplhghhfdabccaaDoorPackQ
namespace Go.Proofs.YtplhghhfdabccaaDoor
open Go.RowKit

/- PACKING, the code's way: the box of the automaton, the result's block, the table's block, the layout's, the words, the counts, seven rows. -/
def tvw (v : Nat → Value) : Nat → Value := fun i => if i < 5 then v i else .slice none 0 0
theorem tvw_upd (v : Nat → Value) (i : Nat) (hi : i < 5) (u : Value) : tvw (upd v i u) = upd (tvw v) i u := by
  funext j
  unfold tvw upd
  by_cases e : j = i
  · subst e; simp [hi]
  · simp [e]
def tw5 (v : Nat → Value) : Nat → Value := fun i => v (5 + i)
structure PkI (w : World) (D : Array Value) (gt p gT gC n : Nat) (T : Nat → Nat) (width : Int) (W : World) (v : Nat → Value) (l : Nat → List Int) : Prop where
  below : Below w.heap.size w W
  box : W.heap[w.heap.size]? = some (.cells D 30 (0, 0))
  res : W.heap[w.heap.size + 1]? = some (.cells zeroA 27 (0, 0))
  row : W.heap[gt]? = some (.cells (rowA width (tvw v)) 27 (0, 0))
  lay : W.heap[p]? = some (.cells (lyA gT (tw5 v)) 50 (0, 0))
  words : W.heap[gT]? = some (.cells (wdRow 943 T) 56 (0, 0))
  cnt : W.heap[gC]? = some (.cells (fnRow n (fun _ => 0)) 3 (0, 0))
  fam : Fam (w.heap.size + 1) 7 W v l
  far : ∀ i, i < 7 → ∀ b, (v i).ownBlock = some b → b ≠ gt ∧ b ≠ p ∧ b ≠ gT ∧ b ≠ gC
  tl : ∀ i, T i < 18446744073709551616
  o1 : w.heap.size + 1 < gt
  o2 : w.heap.size + 1 < p
  o3 : w.heap.size + 1 < gT
  o4 : w.heap.size + 1 < gC
  n1 : gt ≠ p
  n2 : gt ≠ gT
  n3 : gt ≠ gC
  n4 : p ≠ gT
  n5 : p ≠ gC
  n6 : gT ≠ gC
theorem PkI.grow {w W W' : World} {D : Array Value} {gt p gT gC n : Nat} {T : Nat → Nat} {width : Int} {v : Nat → Value} {l : Nat → List Int} (h : PkI w D gt p gT gC n T width W v l) (hb : Below W.heap.size W W') : PkI w D gt p gT gC n T width W' v l :=
  { h with below := below_step h.below h.below.size hb, box := row_below h.box hb, res := row_below h.res hb, row := row_below h.row hb, lay := row_below h.lay hb, words := row_below h.words hb, cnt := row_below h.cnt hb, fam := h.fam.below hb }
theorem PkI.ly {w W : World} {D : Array Value} {gt p gT gC n : Nat} {T : Nat → Nat} {width : Int} {v : Nat → Value} {l : Nat → List Int} (h : PkI w D gt p gT gC n T width W v l) : Ly (w.heap.size + 1) p gT T (tw5 v) (pr2 (l 5) (l 6)) W :=
  ⟨h.o2, h.o3, h.n4, h.lay, h.words, ⟨fun i hi => match i, hi with
    | 0, _ => h.fam.own 5 (by omega)
    | 1, _ => h.fam.own 6 (by omega), fun i j hi hj hne b hb => h.fam.apart (5 + i) (5 + j) (by omega) (by omega) (by omega) b hb⟩, fun i hi b hb => ⟨(h.far (5 + i) (by omega) b hb).2.1, (h.far (5 + i) (by omega) b hb).2.2.1⟩, h.tl⟩
/-- The values behind 'place'. -/
def upd56 (v v2 : Nat → Value) : Nat → Value := fun i => if i < 5 then v i else if i < 7 then v2 (i - 5) else v i
theorem PkI.placed {w W W' : World} {D : Array Value} {gt p gT gC n : Nat} {T T' : Nat → Nat} {width : Int} {v v2 : Nat → Value} {l : Nat → List Int} {N C : List Int} (h : PkI w D gt p gT gC n T width W v l) (L : Ly (w.heap.size + 1) p gT T' v2 (pr2 N C) W') (K : LyK W p gT (tw5 v) v2 W') :
    PkI w D gt p gT gC n T' width W' (upd56 v v2) (updL (updL l 5 N) 6 C) := by
  have hz := h.below.size
  have e5 : ∀ i, i < 5 → upd56 v v2 i = v i := fun i hi => by simp [upd56, hi]
  have e6 : ∀ i, i < 2 → upd56 v v2 (5 + i) = v2 i := fun i hi => by
    have : 5 + i - 5 = i := by omega
    have h1 : 5 + i < 7 := by omega
    have h2 : ¬5 + i < 5 := by omega
    unfold upd56
    rw [if_neg h2, if_pos h1, this]
  have lo5 : ∀ i, i < 2 → ∀ k, (tw5 v i).ownBlock = some k → w.heap.size + 2 ≤ k ∧ k < W.heap.size := fun i hi k hk => owns_block (h.fam.own (5 + i) (by omega)) hk
  have keep : ∀ k, k < W.heap.size → k ≠ p → k ≠ gT → (∀ i, i < 2 → (tw5 v i).ownBlock ≠ some k) → W'.heap[k]? = W.heap[k]? := K.rest
  have low : ∀ k, k ≤ w.heap.size + 1 → W'.heap[k]? = W.heap[k]? := fun k hk => keep k (by have := row_lt h.res; omega) (by have := h.o2; omega) (by have := h.o3; omega) fun i hi hc => by have := lo5 i hi k hc; omega
  have gk : ∀ k o, W.heap[k]? = some o → k ≠ p → k ≠ gT → (∀ i, i < 7 → ∀ b, (v i).ownBlock = some b → b ≠ k) → W'.heap[k]? = some o := fun k o ho h1 h2 h3 => (keep k (row_lt ho) h1 h2 fun i hi hc => h3 (5 + i) (by omega) k hc rfl).trans ho
  have old : ∀ i, i < 5 → ∀ b, (v i).ownBlock = some b → W'.heap[b]? = W.heap[b]? := fun i hi b hb => by
    have q := h.far i (by omega) b hb
    exact keep b (owns_block (h.fam.own i (by omega)) hb).2 q.2.1 q.2.2.1 fun j hj hc => h.fam.apart i (5 + j) (by omega) (by omega) (by omega) b hb hc
  have new : ∀ i, i < 2 → ∀ b, (v2 i).ownBlock = some b → (v (5 + i)).ownBlock = some b ∨ W.heap.size ≤ b := K.new
  have split : ∀ i, i < 7 → i < 5 ∨ ∃ j, j < 2 ∧ i = 5 + j := fun i hi => by
    by_cases e : i < 5
    · exact .inl e
    · exact .inr ⟨i - 5, by omega, by omega⟩
  have lgt := row_lt h.row
  have lgC := row_lt h.cnt
  have apart1 : ∀ i j, i < 5 → j < 2 → ∀ b, (v i).ownBlock = some b → (v2 j).ownBlock ≠ some b := fun i j hi hj b hb hc => by
    rcases new j hj b hc with q | q
    · exact h.fam.apart i (5 + j) (by omega) (by omega) (by omega) b hb q
    · have := (owns_block (h.fam.own i (by omega)) hb).2; omega
  refine ⟨⟨K.os.trans h.below.os, K.tape.trans h.below.tape, K.output.trans h.below.output, Nat.le_trans hz K.size, fun k hk => (low k (by omega)).trans (h.below.block k hk)⟩, (low _ (by omega)).trans h.box, (low _ (by omega)).trans h.res, ?_, ?_, L.words, ?_, ⟨fun i hi => ?_, fun i j hi hj hne b hb => ?_⟩, fun i hi b hb => ?_, L.tl, h.o1, h.o2, h.o3, h.o4, h.n1, h.n2, h.n3, h.n4, h.n5, h.n6⟩
  · have : tvw (upd56 v v2) = tvw v := by
      funext i
      unfold tvw
      split
      · rename_i hi; exact e5 i hi
      · rfl
    rw [this]
    exact gk gt _ h.row h.n1 h.n2 fun i hi b hb => (h.far i hi b hb).1
  · have : lyA gT (tw5 (upd56 v v2)) = lyA gT v2 := by
      unfold lyA tw5
      rw [e6 0 (by omega), e6 1 (by omega)]
    rw [this]
    exact L.box
  · exact gk gC _ h.cnt h.n5.symm h.n6.symm fun i hi b hb => (h.far i hi b hb).2.2.2
  · rcases split i hi with e | ⟨j, hj, rfl⟩
    · rw [e5 i e, updL_ne _ _ (by omega), updL_ne _ _ (by omega)]
      exact owns_keep (h.fam.own i hi) (old i e)
    · rw [e6 j hj]
      match j, hj with
      | 0, _ =>
        rw [updL_ne _ _ (by omega), updL_same]
        exact L.fam.own 0 (by omega)
      | 1, _ =>
        rw [updL_same]
        exact L.fam.own 1 (by omega)
  · rcases split i hi with e | ⟨i', hi', rfl⟩
    · rw [e5 i e] at hb
      rcases split j hj with f | ⟨j', hj', rfl⟩
      · rw [e5 j f]; exact h.fam.apart i j hi hj hne b hb
      · rw [e6 j' hj']; exact apart1 i j' e hj' b hb
    · rw [e6 i' hi'] at hb
      rcases split j hj with f | ⟨j', hj', rfl⟩
      · rw [e5 j f]; exact fun hc => apart1 j i' f hi' b hc hb
      · rw [e6 j' hj']; exact L.fam.apart i' j' hi' hj' (by omega) b hb
  · rcases split i hi with e | ⟨j, hj, rfl⟩
    · rw [e5 i e] at hb; exact h.far i hi b hb
    · rw [e6 j hj] at hb
      have q := L.far j hj b hb
      rcases new j hj b hb with r | r
      · have s := h.far (5 + j) (by omega) b r
        exact ⟨s.1, q.1, q.2, s.2.2.2⟩
      · exact ⟨by omega, q.1, q.2, by omega⟩
/-- 't.F = append(t.F, x)' of one number, F the table's field i: up to the store. -/
theorem wpList_pki {ops : Array Oper} {rest : List Oper} {o : Oper} {a : Act} {Q : Exit → Act → World → Prop} {w W : World} {D : Array Value} {gt p gT gC nn : Nat} {T : Nat → Nat} {width : Int} {v : Nat → Value} {l : Nat → List Int} (S : PkI w D gt p gT gC nn T width W v l) (H : Nat) (hH : W.heap.size = H) (hgd : o.guard = none) (s x : Operand)
    (ho : o.op = .call { callee := .builtin .append, args := #[s, x], argTypes := #[22, 22] }) (i : Nat) (hi : i < 5) (off : Nat) (hoff : offA i = off) (xs : List Int) (hxs : l i = xs) (n : Nat) (hn : xs.length = n) (hs : a.eval s = v i) (y : Int) (hx : a.eval x = .slice (some ⟨H, 0, none⟩) 1 1) (hl : n ≤ 2000000)
    (h : ∀ g cap W', W'.heap[gt]? = some (.cells (rowA width (tvw v)) 27 (0, 0)) → PkI w D gt p gT gC nn T width (W'.setCell ⟨gt, off, none⟩ (.slice (some ⟨g, 0, none⟩) (n + 1) cap)) (upd v i (.slice (some ⟨g, 0, none⟩) (n + 1) cap)) (updL l i (xs ++ [y])) → wpList Tryd.prog ops Q rest (a.put o.dst (.slice (some ⟨g, 0, none⟩) (n + 1) cap)) W') :
    wpList Tryd.prog ops Q (o :: rest) a (W.alloc (.cells #[.int .i64 y] 3)) := by
  subst hH; subst hn; subst hxs; subst hoff
  obtain ⟨i0, hi0, hz0, hz1, hz2⟩ := info_parts Tryd.infoInt
  have hb : Below W.heap.size W (W.alloc (.cells #[.int .i64 y] 3)) := (Below.refl _ _).alloc (Nat.le_refl _) _
  have S1 := S.grow hb
  have own : (W.alloc (.cells #[.int .i64 y] 3)).ownsRow (w.heap.size + 1 + 1) 3 1 (v i) (l i).length ((l i).map intV) := S1.fam.own i (by omega)
  have hrl := row_lt S.row
  have ho1 := S.o1
  refine wpList_append_lies _ hgd s x 22 ho (w.heap.size + 1 + 1) 3 i0 _ 1 8 Tryd.underlying22 hi0 hz0 hz1 hz2 rfl (by omega) (v i) (l i).length ((l i).map intV) hs own ⟨W.heap.size, 0, none⟩ 1 1 [.int .i64 y] hx rfl (one_new (heap_alloc_new _ _)) (by intro u hu; simp at hu; subst hu; rfl) (by omega) (by unfold maxLen; omega) (by omega) (by simp; omega) (W.heap.size + 1) (by simp) ?_
  intro g cap W' own' grow' at' _
  have hsz1 : (W.alloc (.cells #[.int .i64 y] 3)).heap.size = W.heap.size + 1 := by simp
  have at2 : (v i).ownBlock = some g ∨ (W.alloc (.cells #[.int .i64 y] 3)).heap.size ≤ g := at'.imp id (fun h => by rw [hsz1]; omega)
  generalize W.alloc (.cells #[.int .i64 y] 3) = W1 at *
  have fam2 := Fam.append S1.fam (i := i) (by omega) own' grow' at2
  have far1 := S1.far
  have kb : ∀ k ob, W1.heap[k]? = some ob → (∀ b, (v i).ownBlock = some b → b ≠ k) → W'.heap[k]? = some ob := fun k ob hk hne => (grow'.block k (row_lt hk) (fun hc => hne k hc.symm rfl)).trans hk
  have lowb : ∀ b, (v i).ownBlock = some b → w.heap.size + 1 + 1 ≤ b := fun b hb => (owns_block (S1.fam.own i (by omega)) hb).1
  have hgl : w.heap.size + 1 + 1 ≤ g := by
    rcases at2 with q | q
    · exact lowb g q
    · have := row_lt S1.res; omega
  have r2 := kb gt _ S1.row fun b hb => (far1 i (by omega) b hb).1
  have hfar : ∀ j, j < 7 → ∀ b, (upd v i (.slice (some ⟨g, 0, none⟩) ((l i).length + 1) cap) j).ownBlock = some b → b ≠ gt ∧ b ≠ p ∧ b ≠ gT ∧ b ≠ gC := fun j hj b hbb => by
    by_cases e : j = i
    · subst e
      rw [upd_same] at hbb
      simp [Value.ownBlock] at hbb
      subst hbb
      rcases at2 with q | q
      · exact far1 j hj _ q
      · have q1 := row_lt S1.row
        have q2 := row_lt S1.lay
        have q3 := row_lt S1.words
        have q4 := row_lt S1.cnt
        omega
    · rw [upd_ne _ _ e] at hbb
      exact far1 j hj b hbb
  refine h g cap W' r2 ⟨?_, ?_, ?_, ?_, ?_, ?_, ?_, ⟨fun j hj => owns_keep (fam2.own j hj) fun b hbb => heap_setCell_other _ _ _ _ (by simpa using (hfar j hj b hbb).1), fam2.apart⟩, hfar, S.tl, S.o1, S.o2, S.o3, S.o4, S.n1, S.n2, S.n3, S.n4, S.n5, S.n6⟩
  · exact (S1.below.grown grow' S1.below.size (by intro k hk; have := lowb k hk; omega)).setCell (by simp; omega) _
  · rw [heap_setCell_other _ _ _ _ (by simp; omega)]
    exact kb _ _ S1.box fun b hb => by have := lowb b hb; omega
  · rw [heap_setCell_other _ _ _ _ (by simp; omega)]
    exact kb _ _ S1.res fun b hb => by have := lowb b hb; omega
  · rw [tvw_upd v i hi, ← rowA_set width (tvw v) i (by omega)]
    exact heap_setCell_same _ _ _ _ _ _ r2
  · rw [heap_setCell_other _ _ _ _ (by simpa using S.n1.symm)]
    have : tw5 (upd v i (.slice (some ⟨g, 0, none⟩) ((l i).length + 1) cap)) = tw5 v := by
      funext j
      unfold tw5
      rw [upd_ne _ _ (by omega)]
    rw [this]
    exact kb _ _ S1.lay fun b hb => (far1 i (by omega) b hb).2.1
  · rw [heap_setCell_other _ _ _ _ (by simpa using S.n2.symm)]
    exact kb _ _ S1.words fun b hb => (far1 i (by omega) b hb).2.2.1
  · rw [heap_setCell_other _ _ _ _ (by simpa using S.n3.symm)]
    exact kb _ _ S1.cnt fun b hb => (far1 i (by omega) b hb).2.2.2
end Go.Proofs.YtplhghhfdabccaaDoor
