import Derived.Test.YtgbdlgogccgciaaRunSMinM
namespace Go.Proofs.Ytgbdlgogccgciaa

/- WHAT THE WALK GIVES. -/
/-- The number of where byte c leads from the k-th. -/
noncomputable def rowA (st : Nat → Nat → Nat) (an : Nat → Int × Int) (k c : Nat) : Nat := idxA st an (walkA st an k (c + 1)) (st ((walkA st an k c).getD k 0) c)
/-- The walk has come to its k-th. -/
def Going (st : Nat → Nat → Nat) (an : Nat → Int × Int) (k : Nat) : Prop := ∀ j, j < k → j < (walkA st an j 0).length
theorem Going.next {st : Nat → Nat → Nat} {an : Nat → Int × Int} {k : Nat} (h : Going st an k) (hk : k < (walkA st an k 0).length) : Going st an (k + 1) := fun j hj => by
  by_cases e : j = k
  · subst e; exact hk
  · exact h j (by omega)
/-- Two walks that end, end at the same number. -/
theorem going_end {st : Nat → Nat → Nat} {an : Nat → Int × Int} {k m : Nat} (h1 : Going st an k) (e1 : (walkA st an k 0).length = k) (h2 : Going st an m) (e2 : (walkA st an m 0).length = m) : k = m := by
  rcases Nat.lt_trichotomy k m with h | h | h
  · have := h2 k h; omega
  · exact h
  · have := h1 m h; omega
theorem walk_len (st : Nat → Nat → Nat) (an : Nat → Int × Int) (k : Nat) {c d : Nat} (h : c ≤ d) : (walkA st an k c).length ≤ (walkA st an k d).length := by
  obtain ⟨t, ht⟩ := walkA_row_pre st an k c d h
  rw [ht]; simp
theorem getD_pre {l t : List Nat} {k : Nat} (h : k < l.length) : (l ++ t).getD k 0 = l.getD k 0 := by
  rw [List.getD_eq_getElem?_getD, List.getElem?_append_left h, List.getD_eq_getElem?_getD]
theorem walk_at (st : Nat → Nat → Nat) (an : Nat → Int × Int) {k c : Nat} (h : k < (walkA st an k 0).length) : (walkA st an k c).getD k 0 = (walkA st an k 0).getD k 0 := by
  obtain ⟨t, ht⟩ := walkA_row_pre st an k 0 c (Nat.zero_le _)
  rw [ht, getD_pre h]
theorem rowA_lt (st : Nat → Nat → Nat) (an : Nat → Int × Int) (k c : Nat) : rowA st an k c < (walkA st an k (c + 1)).length := by
  unfold rowA
  rw [walkA_succ]
  exact (addA_idx st an _ _).2
theorem rowA_before (st : Nat → Nat → Nat) (an : Nat → Int × Int) (k c : Nat) : rowA st an k c = idxA st an (walkA st an k c) (st ((walkA st an k c).getD k 0) c) := by
  unfold rowA
  rw [walkA_succ]
  exact (addA_idx st an _ _).1
/-- At the end the numbers are what they were. -/
theorem row_final {st : Nat → Nat → Nat} {an : Nat → Int × Int} {K k c : Nat} (hG : Going st an K) (hk : k < K) (hc : c < 256) : rowA st an k c = idxA st an (walkA st an K 0) (st ((walkA st an K 0).getD k 0) c) := by
  have h0 := hG k hk
  obtain ⟨t, ht⟩ := walkA_pre st an (k + 1) K (by omega)
  obtain ⟨t2, ht2⟩ := walkA_row_pre st an k (c + 1) 256 (by omega)
  have e1 : walkA st an K 0 = walkA st an k (c + 1) ++ (t2 ++ t) := by rw [ht, walkA_row, ht2, List.append_assoc]
  have hl : k < (walkA st an k (c + 1)).length := Nat.lt_of_lt_of_le h0 (walk_len st an k (Nat.zero_le _))
  have e2 : (walkA st an K 0).getD k 0 = (walkA st an k c).getD k 0 := by rw [e1, getD_pre hl, walk_at st an h0]; exact (walk_at st an h0).symm
  rw [e2, e1]
  exact (idxA_pre (rowA_lt st an k c)).symm
theorem rowA_top {st : Nat → Nat → Nat} {an : Nat → Int × Int} {K k c : Nat} (hk : k < K) (hc : c < 256) : rowA st an k c < (walkA st an K 0).length := by
  obtain ⟨t, ht⟩ := walkA_pre st an (k + 1) K (by omega)
  obtain ⟨t2, ht2⟩ := walkA_row_pre st an k (c + 1) 256 (by omega)
  have := rowA_lt st an k c
  rw [ht, walkA_row, ht2]
  simp only [List.length_append]
  omega

/- CLASSES OF BYTES. -/
def colEq (K : Nat) (R : Nat → Nat → Nat) (h c : Nat) : Bool := (List.range K).all fun k => R k h == R k c
theorem colEq_iff {K : Nat} {R : Nat → Nat → Nat} {h c : Nat} : colEq K R h c = true ↔ ∀ k, k < K → R k h = R k c := by simp [colEq]
theorem colEq_refl (K : Nat) (R : Nat → Nat → Nat) (h : Nat) : colEq K R h h = true := colEq_iff.2 fun _ _ => rfl
def headsF (K : Nat) (R : Nat → Nat → Nat) : Nat → List Nat
  | 0 => []
  | c + 1 => if (headsF K R c).findIdx (fun h => colEq K R h c) < (headsF K R c).length then headsF K R c else headsF K R c ++ [c]
def clsF (K : Nat) (R : Nat → Nat → Nat) (c : Nat) : Nat := (headsF K R c).findIdx fun h => colEq K R h c
theorem headsF_succ (K : Nat) (R : Nat → Nat → Nat) (c : Nat) : headsF K R (c + 1) = if clsF K R c < (headsF K R c).length then headsF K R c else headsF K R c ++ [c] := rfl
theorem heads_lt (K : Nat) (R : Nat → Nat → Nat) : ∀ c, ∀ h ∈ headsF K R c, h < c
  | 0, h, hh => by simp [headsF] at hh
  | c + 1, h, hh => by
    rw [headsF_succ] at hh
    split at hh
    · have := heads_lt K R c h hh; omega
    · rcases List.mem_append.1 hh with hh | hh
      · have := heads_lt K R c h hh; omega
      · simp at hh; omega
theorem heads_len (K : Nat) (R : Nat → Nat → Nat) : ∀ c, (headsF K R c).length ≤ c
  | 0 => by simp [headsF]
  | c + 1 => by
    have := heads_len K R c
    rw [headsF_succ]
    split
    · omega
    · simp; omega
/-- Two heads' columns differ. -/
theorem heads_apart (K : Nat) (R : Nat → Nat → Nat) : ∀ c i j, i < (headsF K R c).length → j < (headsF K R c).length → colEq K R ((headsF K R c).getD i 0) ((headsF K R c).getD j 0) = true → i = j
  | 0, i, j, hi, _, _ => by simp [headsF] at hi
  | c + 1, i, j, hi, hj, h => by
    rw [headsF_succ] at hi hj h
    by_cases hc : clsF K R c < (headsF K R c).length
    · rw [if_pos hc] at hi hj h
      exact heads_apart K R c i j hi hj h
    · rw [if_neg hc] at hi hj h
      simp only [List.length_append, List.length_cons, List.length_nil] at hi hj
      have hnew : ∀ i, i < (headsF K R c).length → colEq K R ((headsF K R c).getD i 0) c = false := fun i hi => by
        have hle : (headsF K R c).length ≤ clsF K R c := by omega
        unfold clsF at hle
        have := List.not_of_lt_findIdx (p := fun h => colEq K R h c) (i := i) (by omega : i < (headsF K R c).findIdx fun h => colEq K R h c)
        rw [List.getD_eq_getElem?_getD, List.getElem?_eq_getElem hi]
        simpa using this
      have hlast : (headsF K R c ++ [c]).getD (headsF K R c).length 0 = c := by simp
      by_cases h1 : i < (headsF K R c).length <;> by_cases h2 : j < (headsF K R c).length
      · rw [getD_pre h1, getD_pre h2] at h
        exact heads_apart K R c i j h1 h2 h
      · have ej : j = (headsF K R c).length := by omega
        rw [getD_pre h1, ej, hlast, hnew i h1] at h
        cases h
      · have ei : i = (headsF K R c).length := by omega
        rw [getD_pre h2, ei, hlast] at h
        have := hnew j h2
        have h' : colEq K R ((headsF K R c).getD j 0) c = true := colEq_iff.2 fun k hk => (colEq_iff.1 h k hk).symm
        rw [this] at h'
        cases h'
      · omega

/- THE RESULT. -/
structure MinD where
  classes : List Nat
  heads : List Nat
  os : List Nat
noncomputable def minN (st : Nat → Nat → Nat) (an : Nat → Int × Int) (K : Nat) : MinD :=
  ⟨(List.range 256).map (clsF K (rowA st an)), headsF K (rowA st an) 256, walkA st an K 0⟩
end Go.Proofs.Ytgbdlgogccgciaa
