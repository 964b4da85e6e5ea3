import Derived.Test.YtplhghhfdabccaaDoorPackF
namespace Go.Proofs.YtplhghhfdabccaaDoor
open Go.RowKit

theorem PkSt.drew {w W : World} {D : Array Value} {gt : Nat} {width : Int} {v : Nat → Value} {l : Nat → List Int} (S : PkSt w D gt width W v l) : PkSt w D gt width W.drew v l := S.grow (Below.refl _ _).drew
/-- What a row's value looks like, and its cells. -/
theorem PkSt.at {w W : World} {D : Array Value} {gt : Nat} {width : Int} {v : Nat → Value} {l : Nat → List Int} (S : PkSt w D gt width W v l) {i : Nat} (hi : i < 8) {xs : List Int} (hx : l i = xs) (h0 : 0 < xs.length) (hm : xs.length ≤ 9223372036854775807) :
    ∃ g cap, v i = .slice (some ⟨g, 0, none⟩) xs.length cap ∧ gt < g ∧ (∀ j, j < xs.length → W.cell? ⟨g, j, none⟩ = some (.int .i64 (xs.getD j 0))) ∧ (∀ j, W.frozen? ⟨g, j, none⟩ = false) := by
  subst hx
  have own := S.fam.own i hi
  obtain ⟨g, cap, hv, hb, _⟩ := World.ownsRow.form own h0
  have own' : W.ownsRow (gt + 1) 3 1 (.slice (some ⟨g, 0, none⟩) (l i).length cap) (l i).length ((l i).map intV) := by
    have h := own
    unfold Owns at h
    rw [hv] at h
    exact h
  refine ⟨g, cap, hv, hb, fun j hj => ?_, fun j => own'.frozenAt j⟩
  rw [own'.cellAt j (by omega)]
  simp [intV, List.getD, hj]
/-- A store into a row. -/
theorem PkSt.put {w W : World} {D : Array Value} {gt : Nat} {width : Int} {v : Nat → Value} {l : Nat → List Int} (S : PkSt w D gt width W v l) {i : Nat} (hi : i < 8) {xs : List Int} (hx : l i = xs) {g cap : Nat} (hv : v i = .slice (some ⟨g, 0, none⟩) xs.length cap) (idx : Nat) (x : Int) :
    PkSt w D gt width (W.setCell ⟨g, idx, none⟩ (.int .i64 x)) v (updL l i (xs.set idx x)) := by
  subst hx
  have own := S.fam.own i hi
  have own' : W.ownsRow (gt + 1) 3 1 (.slice (some ⟨g, 0, none⟩) (l i).length cap) (l i).length ((l i).map intV) := by
    have h := own
    unfold Owns at h
    rw [hv] at h
    exact h
  have hg : gt + 1 ≤ g := (owns_block own (b := g) (by rw [hv]; rfl)).1
  have hov := S.over
  have st := (own'.stored idx (.int .i64 x)).1
  refine ⟨S.below.setCell (by simp; omega) _, hov, by simpa [World.setCell] using S.lt, ?_, ?_, ?_, ⟨fun j hj => ?_, S.fam.apart⟩⟩
  · rw [heap_setCell_other _ _ _ _ (by simp; omega)]; exact S.box
  · rw [heap_setCell_other _ _ _ _ (by simp; omega)]; exact S.res
  · rw [heap_setCell_other _ _ _ _ (by simp; omega)]; exact S.row
  · by_cases e : j = i
    · subst e
      rw [updL_same]
      unfold Owns
      rw [List.length_set, hv, List.map_set]
      exact st
    · rw [updL_ne _ _ e]
      refine owns_keep (S.fam.own j hj) fun b hb => heap_setCell_other _ _ _ _ (fun hc => ?_)
      exact S.fam.apart j i hj hi e b hb (by rw [hv, show b = g from hc]; rfl)
theorem layAll_lens (z z' : Int) (k : Nat) (f f' : Nat → Int) : ∀ (a : List Nat) (l l' : List Int), l.length = l'.length → (layAll z l k f a).length = (layAll z' l' k f' a).length
  | [], _, _, h => h
  | c :: cs, l, l', h => by
    simp only [layAll]
    refine layAll_lens z z' k f f' cs _ _ ?_
    unfold layL
    rw [List.length_set, List.length_set, longL_len, longL_len, h]
theorem longL_max {z : Int} {n : Nat} {l : List Int} : longL z (max l.length n) l = longL z n l := by
  unfold longL
  congr 2
  omega
theorem layAll_snoc (z : Int) (k : Nat) (f : Nat → Int) (a : List Nat) (c : Nat) (l : List Int) : layAll z l k f (a ++ [c]) = layL z (layAll z l k f a) (k + c) (f c) := by
  rw [layAll_append]; rfl
end Go.Proofs.YtplhghhfdabccaaDoor
