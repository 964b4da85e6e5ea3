import Derived.Test.YtgbdlgogccgciaaMiAMinP
namespace Go.Proofs.Ytgbdlgogccgciaa
open Go.RowKit

/- A PARTITION BEHIND A POINTER: row 0 of a family is of, row 1 work, row (mi x) the members of block x. -/
def mvL (v : Nat → Value) (mi : Nat → Nat) (m : Nat) : List Value := (List.range m).map fun x => v (mi x)
theorem mvL_len (v : Nat → Value) (mi : Nat → Nat) (m : Nat) : (mvL v mi m).length = m := by simp [mvL]
theorem mvL_get (v : Nat → Value) (mi : Nat → Nat) {m x : Nat} (h : x < m) : (mvL v mi m)[x]? = some (v (mi x)) := by simp [mvL, h]
theorem mvL_congr {v v' : Nat → Value} {mi mi' : Nat → Nat} {m : Nat} (h : ∀ x, x < m → v (mi x) = v' (mi' x)) : mvL v mi m = mvL v' mi' m := List.map_congr_left fun x hx => h x (by simpa using hx)
theorem mvL_succ (v : Nat → Value) (mi : Nat → Nat) (m : Nat) : mvL v mi (m + 1) = mvL v mi m ++ [v (mi m)] := by simp [mvL, List.range_succ]
def updI (f : Nat → Nat) (x y : Nat) : Nat → Nat := fun z => if z = x then y else f z
theorem mvL_set (v : Nat → Value) (mi : Nat → Nat) (m b i : Nat) : (mvL v mi m).set b (v i) = mvL v (updI mi b i) m := by
  apply List.ext_getElem?
  intro j
  rw [List.getElem?_set]
  by_cases hj : j < m
  · rw [mvL_get v mi hj, mvL_get v _ hj, mvL_len]
    unfold updI
    by_cases e : b = j
    · rw [if_pos e, if_pos (by omega), if_pos e.symm]
    · rw [if_neg e, if_neg (fun h => e h.symm)]
  · have h1 : ∀ f : Nat → Nat, (mvL v f m)[j]? = none := fun f => List.getElem?_eq_none (by rw [mvL_len]; omega)
    rw [h1, h1, mvL_len]
    by_cases e : b = j
    · rw [if_pos e, if_neg (by omega)]
    · rw [if_neg e]
structure PtS (gt : Nat) (W : World) (p : Nat) (mv : Value) (m : Nat) (mi : Nat → Nat) (v : Nat → Value) (l : Nat → List Int) (N : Nat) (o wk : List Nat) (mem : Nat → List Nat) : Prop where
  fam : Fam gt N W v l
  two : 2 ≤ N
  box : W.heap[p]? = some (.cells #[v 0, mv, v 1] 62 (0, 0))
  pge : gt + 1 ≤ p
  out : W.ownsRow (gt + 1) 22 1 mv m (mvL v mi m)
  idx : ∀ x, x < m → 2 ≤ mi x ∧ mi x < N
  l0 : l 0 = intsN o
  l1 : l 1 = intsN wk
  lm : ∀ x, x < m → l (mi x) = intsN (mem x)
/-- What all of it keeps: blocks that are neither rows of numbers nor partitions, but for block g (the row of members). -/
def KpP (g : Nat) (W W' : World) : Prop := ∀ (b : Nat) (cs : Array Value) (e : TypeId), e ≠ 3 → e ≠ 62 → b ≠ g → W.heap[b]? = some (.cells cs e (0, 0)) → W'.heap[b]? = some (.cells cs e (0, 0))
theorem KpP.refl (g : Nat) (W : World) : KpP g W W := fun _ _ _ _ _ _ h => h
theorem KpP.trans {g : Nat} {A B C : World} (h : KpP g A B) (k : KpP g B C) : KpP g A C := fun b cs e h1 h2 h3 hb => k b cs e h1 h2 h3 (h b cs e h1 h2 h3 hb)
theorem KpP.chain {g g' : Nat} {A B C : World} (h : KpP g A B) (hg : g' = g ∨ A.heap.size ≤ g') (k : KpP g' B C) : KpP g A C := fun b cs e h1 h2 h3 hb => k b cs e h1 h2 (fun e2 => by have := row_lt hb; rcases hg with k1 | k1 <;> omega) (h b cs e h1 h2 h3 hb)
theorem KpP.below {g : Nat} {A B : World} (h : Below A.heap.size A B) : KpP g A B := fun _ _ _ _ _ _ hb => row_below hb h
theorem KpP.set {g : Nat} {A : World} {q j : Nat} {u : Value} {cs : Array Value} {e : TypeId} (hg : A.heap[q]? = some (.cells cs e (0, 0))) (he : e = 3 ∨ e = 62 ∨ q = g) : KpP g A (A.setCell ⟨q, j, none⟩ u) := fun b cs' e' h1 h2 h3 hb => by
  refine (heap_setCell_other _ _ _ _ (fun e2 => ?_)).trans hb
  have e3 : b = q := e2
  subst e3
  rw [hg] at hb
  have := cells_typeM hb
  rcases he with k | k | k
  · exact h1 (this.symm.trans k)
  · exact h2 (this.symm.trans k)
  · exact h3 k
theorem KpP.grown {g : Nat} {A B : World} {row : Option Nat} (h : A.grownBy B row) (hr : ∀ q, row = some q → (∃ cs, A.heap[q]? = some (.cells cs 3 (0, 0))) ∨ q = g) : KpP g A B := fun b cs e h1 h2 h3 hb => by
  refine (h.block b (row_lt hb) (fun e2 => ?_)).trans hb
  rcases hr b e2.symm with ⟨cs', hc⟩ | k
  · rw [hc] at hb
    exact h1 (cells_typeM hb).symm
  · exact h3 k
theorem KpP.fam {g gt n : Nat} {W W' : World} {v : Nat → Value} {l : Nat → List Int} (h : Fam gt n W v l) {i : Nat} (hi : i < n) (hg : W.grownBy W' (v i).ownBlock) : KpP g W W' := KpP.grown hg fun _ e => by
  obtain ⟨cs, hc⟩ := owns_int (h.own i hi) e
  exact .inl ⟨cs, hc⟩

section
variable {gt : Nat} {W W' : World} {p : Nat} {mv : Value} {m : Nat} {mi : Nat → Nat} {v : Nat → Value} {l : Nat → List Int} {N : Nat} {o wk : List Nat} {mem : Nat → List Nat}
theorem PtS.size (h : PtS gt W p mv m mi v l N o wk mem) : gt + 1 ≤ W.heap.size := by have := row_lt h.box; have := h.pge; omega
theorem PtS.on (h : PtS gt W p mv m mi v l N o wk mem) (hb : Below W.heap.size W W') : PtS gt W' p mv m mi v l N o wk mem :=
  ⟨h.fam.below hb, h.two, row_below h.box hb, h.pge, ownsRow_below h.out hb, h.idx, h.l0, h.l1, h.lm⟩
/-- A row of the family (neither of nor work nor any block's) has changed its list. -/
theorem PtS.row (h : PtS gt W p mv m mi v l N o wk mem) {i : Nat} (hi : i < N) (h2 : 2 ≤ i) (hne : ∀ x, x < m → mi x ≠ i) {u : Value} {ys : List Int} (hF : Fam gt N W' (upd v i u) (updL l i ys)) (hg : W.grownBy W' (v i).ownBlock) : PtS gt W' p mv m mi (upd v i u) (updL l i ys) N o wk mem := by
  refine ⟨hF, h.two, ?_, h.pge, ?_, h.idx, by rw [updL_ne _ _ (by omega)]; exact h.l0, by rw [updL_ne _ _ (by omega)]; exact h.l1, fun x hx => by rw [updL_ne _ _ (hne x hx)]; exact h.lm x hx⟩
  · rw [upd_ne _ _ (by omega), upd_ne _ _ (by omega)]
    exact h.fam.others hi hg (by decide) h.box
  · rw [mvL_congr (v' := v) (mi' := mi) (fun x hx => upd_ne _ _ (hne x hx))]
    exact own_others h.fam hi hg h.out
theorem PtS.new (h : PtS gt W p mv m mi v l N o wk mem) : PtS gt (W.alloc (.cells #[] 3)) p mv m mi (upd v N (.slice (some ⟨W.heap.size, 0, none⟩) 0 0)) (updL l N []) (N + 1) o wk mem := by
  have hb : Below W.heap.size W (W.alloc (.cells #[] 3)) := (Below.refl _ _).alloc (Nat.le_refl _) _
  have h2 := h.two
  refine ⟨h.fam.new h.size, by omega, ?_, h.pge, ?_, fun x hx => ⟨(h.idx x hx).1, by have := (h.idx x hx).2; omega⟩, by rw [updL_ne _ _ (by omega)]; exact h.l0, by rw [updL_ne _ _ (by omega)]; exact h.l1, fun x hx => by rw [updL_ne _ _ (by have := (h.idx x hx).2; omega)]; exact h.lm x hx⟩
  · rw [upd_ne _ _ (by omega), upd_ne _ _ (by omega)]
    exact row_below h.box hb
  · rw [mvL_congr (v' := v) (mi' := mi) (fun x hx => upd_ne _ _ (by have := (h.idx x hx).2; omega))]
    exact ownsRow_below h.out hb
/-- of written. -/
theorem PtS.label (h : PtS gt W p mv m mi v l N o wk mem) {o' : List Nat} (hF : Fam gt N W' v (updL l 0 (intsN o'))) (hg : W.grownBy W' (v 0).ownBlock) : PtS gt W' p mv m mi v (updL l 0 (intsN o')) N o' wk mem := by
  have h2 := h.two
  refine ⟨hF, h2, h.fam.others (i := 0) (by omega) hg (by decide) h.box, h.pge, own_others h.fam (i := 0) (by omega) hg h.out, h.idx, updL_same _ _ _, by rw [updL_ne _ _ (by omega)]; exact h.l1, fun x hx => by rw [updL_ne _ _ (by have := (h.idx x hx).1; omega)]; exact h.lm x hx⟩
/-- members[b] written. -/
theorem PtS.member {g cap : Nat} (h : PtS gt W p (.slice (some ⟨g, 0, none⟩) m cap) m mi v l N o wk mem) {b i : Nat} (hi : 2 ≤ i ∧ i < N) {ys : List Nat} (hl : l i = intsN ys) : PtS gt (W.setCell ⟨g, b, none⟩ (v i)) p (.slice (some ⟨g, 0, none⟩) m cap) m (updI mi b i) v l N o wk (fun x => if x = b then ys else mem x) := by
  obtain ⟨cur, hc⟩ := own_slices h.out
  have hgr := grown_putM W g b (v i)
  refine ⟨h.fam.other hc (by decide) hgr, h.two, ?_, h.pge, ?_, fun x hx => ?_, h.l0, h.l1, fun x hx => ?_⟩
  · refine (hgr.block p (row_lt h.box) (fun e => ?_)).trans h.box
    have e2 : p = g := Option.some.inj e
    have hb := h.box
    rw [e2, hc] at hb
    exact absurd (cells_typeM hb) (by decide)
  · have := (h.out.stored b (v i)).1
    rw [mvL_set] at this
    exact this
  · unfold updI
    by_cases e : x = b
    · rw [if_pos e]; exact hi
    · rw [if_neg e]; exact h.idx x hx
  · unfold updI
    by_cases e : x = b
    · rw [if_pos e, if_pos e]; exact hl
    · rw [if_neg e, if_neg e]; exact h.lm x hx
/-- One block more, up to the store. -/
theorem PtS.members {g cap g' cap' : Nat} (h : PtS gt W p (.slice (some ⟨g, 0, none⟩) m cap) m mi v l N o wk mem) {i : Nat} (hi : 2 ≤ i ∧ i < N) {ys : List Nat} (hl : l i = intsN ys) (hg : W.grownBy W' (some g)) (ho : W'.ownsRow (gt + 1) 22 1 (.slice (some ⟨g', 0, none⟩) (m + 1) cap') (m + 1) (mvL v mi m ++ [v i])) :
    W'.heap[p]? = some (.cells #[v 0, .slice (some ⟨g, 0, none⟩) m cap, v 1] 62 (0, 0)) ∧ PtS gt (W'.setCell ⟨p, 1, none⟩ (.slice (some ⟨g', 0, none⟩) (m + 1) cap')) p (.slice (some ⟨g', 0, none⟩) (m + 1) cap') (m + 1) (updI mi m i) v l N o wk (fun x => if x = m then ys else mem x) := by
  obtain ⟨cur, hc⟩ := own_slices h.out
  have hbx : W'.heap[p]? = some (.cells #[v 0, .slice (some ⟨g, 0, none⟩) m cap, v 1] 62 (0, 0)) := by
    refine (hg.block p (row_lt h.box) (fun e => ?_)).trans h.box
    have e2 : p = g := Option.some.inj e
    have hb := h.box
    rw [e2, hc] at hb
    exact absurd (cells_typeM hb) (by decide)
  have hF' := h.fam.other hc (by decide) hg
  have hgp := grown_putM W' p 1 (.slice (some ⟨g', 0, none⟩) (m + 1) cap')
  refine ⟨hbx, hF'.other hbx (by decide) hgp, h.two, heap_setCell_same _ _ _ _ _ _ hbx, h.pge, ?_, fun x hx => ?_, h.l0, h.l1, fun x hx => ?_⟩
  · rw [mvL_succ, mvL_congr (v' := v) (mi' := mi) (fun x hx => by unfold updI; rw [if_neg (by omega)])]
    have e : updI mi m i m = i := by unfold updI; rw [if_pos rfl]
    rw [e]
    exact own_keepM ho fun b cs hb => (hgp.block b (row_lt hb) (fun e => by
      have e2 : b = p := Option.some.inj e
      rw [e2, hbx] at hb
      exact absurd (cells_typeM hb) (by decide))).trans hb
  · unfold updI
    by_cases e : x = m
    · rw [if_pos e]; exact hi
    · rw [if_neg e]; exact h.idx x (by omega)
  · unfold updI
    by_cases e : x = m
    · rw [if_pos e, if_pos e]; exact hl
    · rw [if_neg e, if_neg e]; exact h.lm x (by omega)
/-- work grown, up to the store. -/
theorem PtS.work (h : PtS gt W p mv m mi v l N o wk mem) {u : Value} {wk' : List Nat} (hF : Fam gt N W' (upd v 1 u) (updL l 1 (intsN wk'))) (hg : W.grownBy W' (v 1).ownBlock) :
    W'.heap[p]? = some (.cells #[v 0, mv, v 1] 62 (0, 0)) ∧ PtS gt (W'.setCell ⟨p, 2, none⟩ u) p mv m mi (upd v 1 u) (updL l 1 (intsN wk')) N o wk' mem := by
  have h2 := h.two
  have hbx := h.fam.others (i := 1) (by omega) hg (by decide) h.box
  have hgp := grown_putM W' p 2 u
  refine ⟨hbx, hF.other hbx (by decide) hgp, h2, ?_, h.pge, ?_, h.idx, by rw [updL_ne _ _ (by omega)]; exact h.l0, updL_same _ _ _, fun x hx => by rw [updL_ne _ _ (by have := (h.idx x hx).1; omega)]; exact h.lm x hx⟩
  · rw [upd_ne _ _ (by omega), upd_same]
    exact heap_setCell_same _ _ _ _ _ _ hbx
  · rw [mvL_congr (v' := v) (mi' := mi) (fun x hx => upd_ne _ _ (by have := (h.idx x hx).1; omega))]
    exact own_keepM (own_others h.fam (i := 1) (by omega) hg h.out) fun b cs hb => (hgp.block b (row_lt hb) (fun e => by
      have e2 : b = p := Option.some.inj e
      rw [e2, hbx] at hb
      exact absurd (cells_typeM hb) (by decide))).trans hb
end
end Go.Proofs.Ytgbdlgogccgciaa
