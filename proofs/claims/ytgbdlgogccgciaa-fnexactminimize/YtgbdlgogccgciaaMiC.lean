import Derived.Test.YtgbdlgogccgciaaMiB
namespace Go.Proofs.Ytgbdlgogccgciaa
open Go.RowKit

/- BLOCKS AND THEIR MEMBERS. -/
structure PtM (n m : Nat) (o wk : List Nat) (mem : Nat → List Nat) : Prop where
  ln : o.length = n
  lt : ∀ s, s < n → o.getD s 0 < m
  mm : ∀ x, x < m → ∀ s, s ∈ mem x ↔ s < n ∧ o.getD s 0 = x
  nd : ∀ x, x < m → (mem x).Nodup
  ne : ∀ x, x < m → 0 < (mem x).length
  wl : ∀ b ∈ wk, b < m
theorem nodup_sub : ∀ (l M : List Nat), l.Nodup → (∀ x ∈ l, x ∈ M) → l.length ≤ M.length
  | [], _, _, _ => Nat.zero_le _
  | x :: l, M, hn, hs => by
    have hx := hs x (by simp)
    have h1 : ∀ y ∈ l, y ∈ M.erase x := fun y hy => by
      have hne : y ≠ x := fun e => by subst e; exact (List.nodup_cons.1 hn).1 hy
      exact (List.mem_erase_of_ne hne).2 (hs y (by simp [hy]))
    have ih := nodup_sub l (M.erase x) (List.nodup_cons.1 hn).2 h1
    have := List.length_erase_of_mem hx
    have := List.length_pos_of_mem hx
    simp only [List.length_cons]
    omega
theorem nodup_all {l M : List Nat} (hn : l.Nodup) (hs : ∀ x ∈ l, x ∈ M) (hl : M.length ≤ l.length) : ∀ x ∈ M, x ∈ l := fun x hx => by
  by_cases h : x ∈ l
  · exact h
  · have := nodup_sub (x :: l) M (List.nodup_cons.2 ⟨h, hn⟩) (fun y hy => by rcases List.mem_cons.1 hy with e | e; exact e ▸ hx; exact hs y e)
    simp only [List.length_cons] at this
    omega
theorem PtM.le {n m : Nat} {o wk : List Nat} {mem : Nat → List Nat} (h : PtM n m o wk mem) : m ≤ n := by
  have hh : ∀ x, x < m → (mem x).getD 0 0 ∈ mem x := fun x hx => getD_mem (h.ne x hx)
  have hp : ((List.range m).map fun x => (mem x).getD 0 0).Nodup := by
    rw [List.nodup_iff_pairwise_ne, List.pairwise_map]
    refine List.Pairwise.imp_of_mem ?_ (List.nodup_iff_pairwise_ne.1 List.nodup_range)
    intro a b ha hb hne e
    have ha' : a < m := by simpa using ha
    have hb' : b < m := by simpa using hb
    have h1 := ((h.mm a ha' _).1 (hh a ha')).2
    have h2 := ((h.mm b hb' _).1 (hh b hb')).2
    rw [e] at h1
    exact hne (h1.symm.trans h2)
  have := nodup_le n _ hp (fun x hx => by
    obtain ⟨y, hy, rfl⟩ := List.mem_map.1 hx
    have hy' : y < m := by simpa using hy
    exact ((h.mm y hy' _).1 (hh y hy')).1)
  simpa using this
theorem PtM.split {n m : Nat} {o wk : List Nat} {mem : Nat → List Nat} (h : PtM n m o wk mem) {b : Nat} (hb : b < m) {X Y o' : List Nat} (hX : X.Nodup) (hY : Y.Nodup) (hX0 : 0 < X.length) (hY0 : 0 < Y.length) (hu : ∀ s, s ∈ mem b ↔ s ∈ X ∨ s ∈ Y) (hd : ∀ s, s ∈ X → s ∉ Y) (hl : o'.length = n) (ho : ∀ s, s < n → o'.getD s 0 = if s ∈ X then m else o.getD s 0) :
    PtM n (m + 1) o' (wk ++ [m]) (fun x => if x = m then X else if x = b then Y else mem x) := by
  have hXn : ∀ s ∈ X, s < n ∧ o.getD s 0 = b := fun s hs => (h.mm b hb s).1 ((hu s).2 (.inl hs))
  have hYn : ∀ s ∈ Y, s < n ∧ o.getD s 0 = b := fun s hs => (h.mm b hb s).1 ((hu s).2 (.inr hs))
  refine ⟨hl, fun s hs => ?_, fun x hx s => ?_, fun x hx => ?_, fun x hx => ?_, fun c hc => ?_⟩
  · rw [ho s hs]
    have := h.lt s hs
    split <;> omega
  · by_cases e1 : x = m
    · subst e1
      simp only [if_pos]
      constructor
      · intro hs
        exact ⟨(hXn s hs).1, by rw [ho s (hXn s hs).1, if_pos hs]⟩
      · rintro ⟨h1, h2⟩
        rw [ho s h1] at h2
        by_cases hs : s ∈ X
        · exact hs
        · rw [if_neg hs] at h2
          have := h.lt s h1
          omega
    · simp only [if_neg e1]
      by_cases e2 : x = b
      · subst e2
        simp only [if_pos]
        constructor
        · intro hs
          have hn := hYn s hs
          exact ⟨hn.1, by rw [ho s hn.1, if_neg (fun k => hd s k hs)]; exact hn.2⟩
        · rintro ⟨h1, h2⟩
          rw [ho s h1] at h2
          by_cases hs : s ∈ X
          · rw [if_pos hs] at h2; omega
          · rw [if_neg hs] at h2
            exact ((hu s).1 ((h.mm x hb s).2 ⟨h1, h2⟩)).resolve_left hs
      · simp only [if_neg e2]
        rw [h.mm x (by omega) s]
        constructor
        · rintro ⟨h1, h2⟩
          exact ⟨h1, by rw [ho s h1, if_neg (fun k => e2 (h2.symm.trans (hXn s k).2))]; exact h2⟩
        · rintro ⟨h1, h2⟩
          rw [ho s h1] at h2
          by_cases hs : s ∈ X
          · rw [if_pos hs] at h2; omega
          · rw [if_neg hs] at h2; exact ⟨h1, h2⟩
  · by_cases e1 : x = m
    · simp only [if_pos e1]; exact hX
    · simp only [if_neg e1]
      by_cases e2 : x = b
      · simp only [if_pos e2]; exact hY
      · simp only [if_neg e2]; exact h.nd x (by omega)
  · by_cases e1 : x = m
    · simp only [if_pos e1]; exact hX0
    · simp only [if_neg e1]
      by_cases e2 : x = b
      · simp only [if_pos e2]; exact hY0
      · simp only [if_neg e2]; exact h.ne x (by omega)
  · rcases List.mem_append.1 hc with k | k
    · have := h.wl c k; omega
    · have : c = m := by simpa using k
      omega
/-- What split does. -/
structure SpM (n : Nat) (m : Nat) (o wk : List Nat) (m' : Nat) (o' wk' : List Nat) (grp : List Nat) : Prop where
  iff : ∀ s t, s < n → t < n → (o'.getD s 0 = o'.getD t 0 ↔ o.getD s 0 = o.getD t 0 ∧ (s ∈ grp ↔ t ∈ grp))
  num : ∀ s, s < n → o'.getD s 0 = o.getD s 0 ∨ o'.getD s 0 ∈ wk'
  up : ∀ b ∈ wk, b ∈ wk'
  le : m ≤ m'
  wl : wk'.length + m = wk.length + m'
def SpR (gt : Nat) (W : World) (p n m g : Nat) (v : Nat → Value) (l : Nat → List Int) (N : Nat) (o wk grp : List Nat) (e : Ending) (w' : World) : Prop :=
  e = .returned (.tuple #[]) ∧ ∃ g' c' m' mi' v' l' N' o' wk' mem', PtS gt w' p (.slice (some ⟨g', 0, none⟩) m' c') m' mi' v' l' N' o' wk' mem' ∧ PtM n m' o' wk' mem' ∧ SpM n m o wk m' o' wk' grp ∧ N ≤ N' ∧ (∀ i, 2 ≤ i → i < N → v' i = v i ∧ l' i = l i) ∧ Below (gt + 1) W w' ∧ KpP g W w' ∧ (g' = g ∨ W.heap.size ≤ g')
/-- The whole block. -/
theorem SpM.whole {n m : Nat} {o wk : List Nat} {mem : Nat → List Nat} (h : PtM n m o wk mem) {b : Nat} (hb : b < m) {grp : List Nat} (hn : grp.Nodup) (hg : ∀ s ∈ grp, s ∈ mem b) (hl : (mem b).length = grp.length) : SpM n m o wk m o wk grp := by
  have hall := nodup_all hn hg (by omega)
  refine ⟨fun s t hs ht => ⟨fun e => ⟨e, ?_⟩, fun e => e.1⟩, fun _ _ => .inl rfl, fun _ k => k, Nat.le_refl _, rfl⟩
  have key : ∀ s, s < n → (s ∈ grp ↔ o.getD s 0 = b) := fun s hs => ⟨fun k => ((h.mm b hb s).1 (hg s k)).2, fun k => hall s ((h.mm b hb s).2 ⟨hs, k⟩)⟩
  rw [key s hs, key t ht, e]
/-- Parted: either side may get the new number. -/
theorem SpM.part {n m : Nat} {o wk : List Nat} {mem : Nat → List Nat} (h : PtM n m o wk mem) {b : Nat} (hb : b < m) {grp X o' : List Nat} (hg : ∀ s ∈ grp, s ∈ mem b) (hX : (∀ s, s < n → (s ∈ X ↔ s ∈ grp)) ∨ (∀ s, s < n → (s ∈ X ↔ o.getD s 0 = b ∧ s ∉ grp))) (ho : ∀ s, s < n → o'.getD s 0 = if s ∈ X then m else o.getD s 0) : SpM n m o wk (m + 1) o' (wk ++ [m]) grp := by
  refine ⟨fun s t hs ht => ?_, fun s hs => ?_, fun c hc => by simp [hc], by omega, by simp; omega⟩
  · have := part_iff (of := fun s => o.getD s 0) h.lt (fun s hs => ((h.mm b hb s).1 (hg s hs)).2) hX hs ht
    unfold partOf at this
    rw [ho s hs, ho t ht]
    exact this
  · rw [ho s hs]
    by_cases k : s ∈ X
    · rw [if_pos k]; exact .inr (by simp)
    · rw [if_neg k]; exact .inl rfl
end Go.Proofs.Ytgbdlgogccgciaa
