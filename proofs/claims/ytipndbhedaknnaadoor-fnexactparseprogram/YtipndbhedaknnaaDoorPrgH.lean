import Derived.Test.YtipndbhedaknnaaDoorPrgG
namespace Go.Proofs.YtipndbhedaknnaaDoor
open Go.RowKit
attribute [local go_sem ↓] Go.wp_at_zero Go.wp_at_succ

/- MARKS IN STATES. -/
def fullF (k : Int) : Bool := k % 3 == 0
def mkSt (k : Nat) (s : StD) : StD := ⟨mkCs k s.cases.length, ((k + 4 * s.cases.length : Nat) : Int), ⟨((k + 4 * s.cases.length + 1 : Nat) : Int), ((k + 4 * s.cases.length + 2 : Nat) : Int), markF (k + 4 * s.cases.length + 3)⟩, fullF ((k + 4 * s.cases.length + 4 : Nat) : Int), ⟨((k + 4 * s.cases.length + 5 : Nat) : Int), ((k + 4 * s.cases.length + 6 : Nat) : Int), markF (k + 4 * s.cases.length + 7)⟩, ((k + 4 * s.cases.length + 8 : Nat) : Int)⟩
def mkSts : Nat → List StD → List StD
  | _, [] => []
  | k, s :: r => mkSt k s :: mkSts (k + 4 * s.cases.length + 9) r
def endK : Nat → List StD → Nat
  | k, [] => k
  | k, s :: r => endK (k + 4 * s.cases.length + 9) r
theorem mkSts_len : ∀ (k : Nat) (ss : List StD), (mkSts k ss).length = ss.length
  | _, [] => rfl
  | k, s :: r => by simp [mkSts, mkSts_len]
theorem mkSts_app : ∀ (k : Nat) (a : List StD) (s : StD), mkSts k (a ++ [s]) = mkSts k a ++ [mkSt (endK k a) s]
  | _, [], _ => rfl
  | k, b :: r, s => by simp [mkSts, endK, mkSts_app]
theorem endK_app : ∀ (k : Nat) (a : List StD) (s : StD), endK k (a ++ [s]) = endK k a + 4 * s.cases.length + 9
  | _, [], _ => rfl
  | k, b :: r, s => by simp [endK, endK_app]
theorem mkSts_mid : ∀ (k : Nat) (a : List StD) (s : StD) (d : List StD), mkSts k (a ++ s :: d) = mkSts k a ++ mkSt (endK k a) s :: mkSts (endK k a + 4 * s.cases.length + 9) d
  | _, [], _, _ => rfl
  | k, b :: r, s, d => by simp [mkSts, endK, mkSts_mid]
theorem endK_le : ∀ (k : Nat) (a : List StD), (∀ s ∈ a, s.cases.length ≤ 100) → endK k a ≤ k + 409 * a.length
  | k, [], _ => by simp [endK]
  | k, b :: r, h => by
    have h1 := h b (by simp)
    have h2 := endK_le (k + 4 * b.cases.length + 9) r (fun s hs => h s (by simp [hs]))
    simp only [endK, List.length_cons]
    omega
theorem sts_mid (cv : Nat → Value) (A : List StD) (s : StD) (D : List StD) : stsCells cv (A ++ s :: D) = stsCells cv A ++ (stCells (cv A.length) s ++ stsCells (fun i => cv (A.length + 1 + i)) D) := by
  induction A generalizing cv with
  | nil => simp [stsCells, Nat.add_comm]
  | cons a r ih =>
    simp only [List.cons_append, stsCells, ih, List.append_assoc, List.length_cons]
    congr 3
    congr 1
    funext i
    congr 1
    omega
theorem mid_at (A : List StD) (s s' : StD) (D : List StD) (i : Nat) (h : i < (A ++ s :: D).length) (h' : i < (A ++ s' :: D).length) : (i = A.length ∧ (A ++ s :: D)[i] = s ∧ (A ++ s' :: D)[i] = s') ∨ (i ≠ A.length ∧ (A ++ s :: D)[i] = (A ++ s' :: D)[i]) := by
  by_cases hi : i = A.length
  · subst hi
    exact .inl ⟨rfl, by simp, by simp⟩
  · refine .inr ⟨hi, ?_⟩
    by_cases hl : i < A.length
    · rw [List.getElem_append_left hl, List.getElem_append_left hl]
    · obtain ⟨m, rfl⟩ : ∃ m, i = A.length + (m + 1) := ⟨i - A.length - 1, by omega⟩
      rw [List.getElem_append_right (by omega), List.getElem_append_right (by omega)]
      simp
/-- A cell of a state in the middle stored. -/
theorem PrV.setMid {B : Nat} {W : World} {sg cap n : Nat} {cv : Nat → Value} {A D : List StD} {s s' : StD} (h : PrV B W (.slice (some ⟨sg, 0, none⟩) n cap) cv (A ++ s :: D)) {c : Nat} (hc : c < 10) {u : Value} (hs : s'.cases = s.cases) (he : stCells (cv A.length) s' = (stCells (cv A.length) s).set c u) :
    PrV B (W.setCell ⟨sg, A.length * 10 + c, none⟩ u) (.slice (some ⟨sg, 0, none⟩) n cap) cv (A ++ s' :: D) := by
  have hln : (A ++ s' :: D).length = (A ++ s :: D).length := by simp
  have hnn : n = (A ++ s :: D).length := by
    rcases h.row.2 with ⟨e, _⟩ | ⟨g, c', cur, e, _⟩
    · cases e
    · cases e; rfl
  subst hnn
  have h1 := (h.row.stored (A.length * 10 + c) u).1
  have hl := stsCells_len cv A
  have hl2 : (stCells (cv A.length) s).length = 10 := rfl
  rw [sts_mid, List.set_append_right _ _ (by omega), show A.length * 10 + c - (stsCells cv A).length = c by omega, List.set_append_left _ _ (by omega), ← he, ← sts_mid] at h1
  refine ⟨by rw [hln]; exact h1, fun i hi => ?_, fun i hi b hb => ?_⟩
  · have hi' : i < (A ++ s :: D).length := by rw [← hln]; exact hi
    have hk := ownsRow_keep (w' := W.setCell ⟨sg, A.length * 10 + c, none⟩ u) (h.cas i hi') (fun b hb => heap_setCell_other _ _ _ _ (fun e => by
      have := (h.apart i hi' b hb).1
      simp only at e
      rw [← e] at this
      exact this rfl))
    rcases mid_at A s s' D i hi' hi with ⟨_, e1, e2⟩ | ⟨_, e1⟩
    · rw [e1] at hk; rw [e2, hs]; exact hk
    · rw [e1] at hk; exact hk
  · have := h.apart i (by rw [← hln]; exact hi) b hb
    rw [hln]
    exact this
/-- The cases of a state in the middle turned. -/
theorem PrV.casMid {B : Nat} {W W' : World} {sv : Value} {cv : Nat → Value} {A D : List StD} {s : StD} {cs : List CaseD} (h : PrV B W sv cv (A ++ s :: D)) (hl : cs.length = s.cases.length)
    (own : W'.ownsRow B 47 4 (cv A.length) s.cases.length (csCells cs)) (gr : W.grownBy W' (cv A.length).ownBlock) : PrV B W' sv cv (A ++ { s with cases := cs } :: D) := by
  have hln : (A ++ { s with cases := cs } :: D).length = (A ++ s :: D).length := by simp
  have hA : A.length < (A ++ s :: D).length := by simp
  refine ⟨?_, fun i hi => ?_, fun i hi b hb => ?_⟩
  · have hk := ownsRow_keep (w' := W') h.row (fun b hb => gr.block b (h.lt (.inl hb)).2 (fun e => (h.apart A.length hA b e.symm).1 hb))
    rw [sts_mid] at hk ⊢
    rw [hln]
    exact hk
  · have hi' : i < (A ++ s :: D).length := by rw [← hln]; exact hi
    rcases mid_at A s { s with cases := cs } D i hi' hi with ⟨rfl, _, e2⟩ | ⟨hne, e1⟩
    · rw [e2]
      show W'.ownsRow B _ 4 _ cs.length (csCells cs)
      rw [hl]
      exact own
    · have hk := ownsRow_keep (w' := W') (h.cas i hi') (fun b hb => gr.block b (h.lt (.inr ⟨i, hi', hb⟩)).2 (fun e => (h.apart A.length hA b e.symm).2 i hi' hne hb))
      rw [e1] at hk
      exact hk
  · have := h.apart i (by rw [← hln]; exact hi) b hb
    rw [hln]
    exact this
theorem PrV.mid {B : Nat} {W : World} {sg cap n : Nat} {cv : Nat → Value} {A D : List StD} {s : StD} (h : PrV B W (.slice (some ⟨sg, 0, none⟩) n cap) cv (A ++ s :: D)) (c : Nat) (hc : c < 10) : W.cell? ⟨sg, A.length * 10 + c, none⟩ = (stCells (cv A.length) s)[c]? ∧ W.frozen? ⟨sg, A.length * 10 + c, none⟩ = false := by
  have hnn : n = (A ++ s :: D).length := by
    rcases h.row.2 with ⟨e, _⟩ | ⟨g, c', cur, e, _⟩
    · cases e
    · cases e; rfl
  subst hnn
  refine ⟨?_, h.row.frozenAt _⟩
  have hl : (A ++ s :: D).length = A.length + 1 + D.length := by simp; omega
  rw [h.row.cellAt _ (by omega), stsCells_get cv (A ++ s :: D) A.length (by omega) c hc]
  simp
theorem PrV.midC {B : Nat} {W : World} {sv : Value} {cv : Nat → Value} {A D : List StD} {s : StD} (h : PrV B W sv cv (A ++ s :: D)) : W.ownsRow B 47 4 (cv A.length) s.cases.length (csCells s.cases) := by
  have := h.cas A.length (by simp)
  simpa using this
end Go.Proofs.YtipndbhedaknnaaDoor
