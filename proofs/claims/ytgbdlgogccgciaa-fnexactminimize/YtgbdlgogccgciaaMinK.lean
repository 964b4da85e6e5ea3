import Derived.Test.YtgbdlgogccgciaaFamMinI
import Derived.Deep.Slices
namespace Go.Proofs.Ytgbdlgogccgciaa
open Go.RowKit

/- MORE ON FAMILIES OF ROWS. -/
theorem one_newD {w : World} {B : Nat} {x : Value} {t : TypeId} (h : w.heap[B]? = some (.cells #[x] t (0, 0))) : ∀ j u, [x][j]? = some u → w.cell? ((⟨B, 0, none⟩ : Addr).add j) = some u := World.news_of_block h
theorem owns_formD {B : Nat} {W : World} {v : Value} {xs : List Int} (h : Owns B W v xs) : ∃ r : Option Addr × Nat, v = .slice r.1 xs.length r.2 := by
  rcases h.2 with ⟨rfl, h0⟩ | ⟨g, cap, cur, rfl, _⟩
  · exact ⟨(none, 0), by rw [h0]⟩
  · exact ⟨(some ⟨g, 0, none⟩, cap), rfl⟩
theorem owns_some {B : Nat} {W : World} {v : Value} {xs : List Int} (h : Owns B W v xs) (hne : 0 < xs.length) : ∃ g cap, v = .slice (some ⟨g, 0, none⟩) xs.length cap ∧ B ≤ g ∧ g < W.heap.size ∧ ∀ j, j < xs.length → W.cell? ⟨g, j, none⟩ = some (.int .i64 (xs.getD j 0)) := by
  have h' : W.ownsRow B 3 1 v xs.length (xs.map intV) := h
  rcases h.2 with ⟨rfl, h0⟩ | ⟨g, cap, cur, rfl, hg, hh, _⟩
  · omega
  · refine ⟨g, cap, rfl, hg, (Array.getElem?_eq_some_iff.1 hh).1, fun j hj => ?_⟩
    rw [h'.cellAt j (by omega)]
    simp [intV, List.getD, hj]
theorem owns_int {B : Nat} {W : World} {v : Value} {xs : List Int} (h : Owns B W v xs) {b : Nat} (hb : v.ownBlock = some b) : ∃ cur : Array Value, W.heap[b]? = some (.cells cur 3 (0, 0)) := by
  rcases h.2 with ⟨rfl, _⟩ | ⟨g, cap, cur, rfl, hg, hh, _⟩
  · simp [Value.ownBlock] at hb
  · simp [Value.ownBlock] at hb; subst hb; exact ⟨cur, hh⟩
theorem Fam.keepO {gt n : Nat} {W W' : World} {v : Nat → Value} {l : Nat → List Int} (h : Fam gt n W v l) (hk : ∀ i, i < n → ∀ b, (v i).ownBlock = some b → W'.heap[b]? = W.heap[b]?) : Fam gt n W' v l :=
  ⟨fun i hi => owns_keep (h.own i hi) (hk i hi), h.apart⟩
/-- A row of another kind has grown. -/
theorem Fam.other {gt n : Nat} {W W' : World} {v : Nat → Value} {l : Nat → List Int} (h : Fam gt n W v l) {g : Nat} {cs : Array Value} {e : TypeId} (hg : W.heap[g]? = some (.cells cs e (0, 0))) (he : e ≠ 3) (hgr : W.grownBy W' (some g)) : Fam gt n W' v l :=
  h.keepO fun i hi b hb => by
    obtain ⟨cur, hc⟩ := owns_int (h.own i hi) hb
    exact hgr.block b (Array.getElem?_eq_some_iff.1 hc).1 (fun e2 => by cases e2; rw [hg] at hc; exact he (cells_typeM hc))
/-- A row of the family has grown: rows of another kind are as they were. -/
theorem Fam.others {gt n : Nat} {W W' : World} {v : Nat → Value} {l : Nat → List Int} (h : Fam gt n W v l) {i : Nat} (hi : i < n) (hgr : W.grownBy W' (v i).ownBlock) {b : Nat} {cs : Array Value} {e : TypeId} (he : e ≠ 3) (hb : W.heap[b]? = some (.cells cs e (0, 0))) : W'.heap[b]? = some (.cells cs e (0, 0)) :=
  (hgr.block b (Array.getElem?_eq_some_iff.1 hb).1 (fun e2 => by
    obtain ⟨cur, hc⟩ := owns_int (h.own i hi) e2.symm
    rw [hb] at hc
    exact he (cells_typeM hc))).trans hb
theorem Fam.new {gt n : Nat} {W : World} {v : Nat → Value} {l : Nat → List Int} (h : Fam gt n W v l) (hB : gt + 1 ≤ W.heap.size) : Fam gt (n + 1) (W.alloc (.cells #[] 3)) (upd v n (.slice (some ⟨W.heap.size, 0, none⟩) 0 0)) (updL l n []) := by
  have hb : Below W.heap.size W (W.alloc (.cells #[] 3)) := (Below.refl _ _).alloc (Nat.le_refl _) _
  have h' := h.below hb
  refine ⟨fun i hi => ?_, fun i j hi hj hne b hbi => ?_⟩
  · by_cases e : i = n
    · subst e
      rw [upd_same, updL_same]
      exact own_monoN (ownsRow_new W 3) hB
    · rw [upd_ne _ _ e, updL_ne _ _ e]
      exact h'.own i (by omega)
  · by_cases e : i = n
    · subst e
      rw [upd_same] at hbi
      rw [upd_ne _ _ (Ne.symm hne)]
      simp [Value.ownBlock] at hbi
      intro hc
      have := (owns_block (h.own j (by omega)) hc).2
      omega
    · rw [upd_ne _ _ e] at hbi
      by_cases e2 : j = n
      · subst e2
        rw [upd_same]
        have := (owns_block (h.own i (by omega)) hbi).2
        simp [Value.ownBlock]
        omega
      · rw [upd_ne _ _ e2]
        exact h.apart i j (by omega) (by omega) hne b hbi
theorem Fam.congr {gt n : Nat} {W : World} {v v' : Nat → Value} {l l' : Nat → List Int} (h : Fam gt n W v l) (hv : ∀ i, i < n → v i = v' i) (hl : ∀ i, i < n → l i = l' i) : Fam gt n W v' l' :=
  ⟨fun i hi => by rw [← hv i hi, ← hl i hi]; exact h.own i hi, fun i j hi hj hne b hb => by rw [← hv j hj]; rw [← hv i hi] at hb; exact h.apart i j hi hj hne b hb⟩
/-- append of one number to row i of a family. -/
theorem wpList_fam {ops : Array Oper} {rest : List Oper} {o : Oper} {a : Act} {Q : Exit → Act → World → Prop} {W : World} {gt n : Nat} {v : Nat → Value} {l : Nat → List Int} (S : Fam gt n W v l) (H : Nat) (hH : W.heap.size = H) (hgd : o.guard = none) (s x : Operand)
    (ho : o.op = .call { callee := .builtin .append, args := #[s, x], argTypes := #[22, 22] }) (i : Nat) (hi : i < n) (xs : List Int) (hxs : l i = xs) (m : Nat) (hn : xs.length = m) (hs : a.eval s = v i) (y : Int) (hx : a.eval x = .slice (some ⟨H, 0, none⟩) 1 1) (hl : m ≤ 2000000) (hB : gt + 1 ≤ W.heap.size)
    (h : ∀ g cap W', Fam gt n W' (upd v i (.slice (some ⟨g, 0, none⟩) (m + 1) cap)) (updL l i (xs ++ [y])) → W.grownBy W' (v i).ownBlock → wpList Try.prog ops Q rest (a.put o.dst (.slice (some ⟨g, 0, none⟩) (m + 1) cap)) W') :
    wpList Try.prog ops Q (o :: rest) a (W.alloc (.cells #[.int .i64 y] 3)) := by
  subst hH; subst hn; subst hxs
  obtain ⟨i0, hi0, hz0, hz1, hz2⟩ := info_parts Try.infoInt
  have hb : Below W.heap.size W (W.alloc (.cells #[.int .i64 y] 3)) := (Below.refl _ _).alloc (Nat.le_refl _) _
  have own : (W.alloc (.cells #[.int .i64 y] 3)).ownsRow (gt + 1) 3 1 (v i) (l i).length ((l i).map intV) := (S.below hb).own i hi
  refine wpList_append_lies _ hgd s x 22 ho (gt + 1) 3 i0 _ 1 8 Try.underlying22 hi0 hz0 hz1 hz2 rfl (by omega) (v i) (l i).length ((l i).map intV) hs own ⟨W.heap.size, 0, none⟩ 1 1 [.int .i64 y] hx rfl (one_newD (heap_alloc_new _ _)) (by intro u hu; simp at hu; subst hu; rfl) (by omega) (by unfold maxLen; omega) (by omega) (by simp; omega) (W.heap.size + 1) (by simp) ?_
  intro g cap W' own' grow' at' _
  refine h g cap W' (Fam.append (S.below hb) hi own' grow' (at'.imp id (fun h => by simp; omega))) ?_
  exact ⟨grow'.os, grow'.tape, grow'.output, Nat.le_trans hb.size grow'.size, fun k hk hne => (grow'.block k (by have := hb.size; omega) hne).trans (hb.block k hk)⟩

/- CLASSES OF BYTES. -/
theorem colEq_succ (K : Nat) (R : Nat → Nat → Nat) (h c : Nat) : colEq (K + 1) R h c = (colEq K R h c && (R K h == R K c)) := by simp [colEq, List.range_succ]
theorem cls_at {K : Nat} {R : Nat → Nat → Nat} {c j : Nat} (hj : j < (headsF K R c).length) : colEq K R ((headsF K R c).getD j 0) c = true ↔ clsF K R c = j := by
  have hg : (headsF K R c).getD j 0 = (headsF K R c)[j] := by rw [List.getD_eq_getElem?_getD, List.getElem?_eq_getElem hj]; rfl
  constructor
  · intro h
    unfold clsF
    rw [List.findIdx_eq hj]
    refine ⟨by rw [← hg]; exact h, fun i hi => ?_⟩
    cases e : colEq K R (headsF K R c)[i] c
    · rfl
    · have hgi : (headsF K R c).getD i 0 = (headsF K R c)[i] := by rw [List.getD_eq_getElem?_getD, List.getElem?_eq_getElem (by omega)]; rfl
      have : i = j := heads_apart K R c i j (by omega) hj (by
        rw [colEq_iff] at *
        intro k hk
        rw [hgi]
        exact (e k hk).trans (h k hk).symm)
      omega
  · intro h
    have h1 : clsF K R c < (headsF K R c).length := by omega
    have := List.findIdx_getElem (w := h1)
    unfold clsF at h
    rw [hg]
    simpa [h] using this
/-- What class stands at behind j heads. -/
def clsV (K : Nat) (R : Nat → Nat → Nat) (c j : Nat) : Int := if clsF K R c < j then (clsF K R c : Int) else -1
theorem clsV_yes {K : Nat} {R : Nat → Nat → Nat} {c j : Nat} (hj : j < (headsF K R c).length) (h : colEq K R ((headsF K R c).getD j 0) c = true) : clsV K R c (j + 1) = j := by
  have := (cls_at hj).1 h
  unfold clsV
  rw [if_pos (by omega), this]
theorem clsV_no {K : Nat} {R : Nat → Nat → Nat} {c j : Nat} (hj : j < (headsF K R c).length) (h : colEq K R ((headsF K R c).getD j 0) c = false) : clsV K R c (j + 1) = clsV K R c j := by
  have : clsF K R c ≠ j := fun e => by have := (cls_at hj).2 e; rw [h] at this; cases this
  unfold clsV
  by_cases e : clsF K R c < j
  · rw [if_pos e, if_pos (by omega)]
  · rw [if_neg e, if_neg (by omega)]
end Go.Proofs.Ytgbdlgogccgciaa
