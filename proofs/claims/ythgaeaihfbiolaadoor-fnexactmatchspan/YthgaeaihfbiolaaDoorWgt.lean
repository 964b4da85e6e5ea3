import Derived.Test.YthgaeaihfbiolaaDoorMth
import Derived.Deep.RegionHeld3
import Derived.Deep.DrawnRows
namespace Go.Proofs.YthgaeaihfbiolaaDoor
open Go.RowKit
attribute [local go_sem ↓] Go.wp_at_zero Go.wp_at_succ

structure WInv (B : Nat) (w0 wr : World) (ns : List NodeD) (gl cl gr cr g k : Nat) : Prop where
  below : Below B w0 wr
  left : wr.ownsRow B 3 1 (.slice (some ⟨gl, 0, none⟩) ns.length cl) ns.length (rowL ns ns.length)
  right : wr.ownsRow B 3 1 (.slice (some ⟨gr, 0, none⟩) ns.length cr) ns.length (rowR ns ns.length)
  wrow : ∃ xs, wr.ownsRow B 3 1 (.slice (some ⟨g, 0, none⟩) ns.length ns.length) ns.length xs ∧ ∀ j, j < k → xs[j]? = some (.int .i64 (wOf ns j))
  lne : gl ≠ g
  rne : gr ≠ g
  base : B ≤ wr.heap.size

theorem WInv.same {B : Nat} {w0 wr w1 : World} {ns : List NodeD} {gl cl gr cr g k : Nat} (h : WInv B w0 wr ns gl cl gr cr g k) (hb : Below wr.heap.size wr w1) : WInv B w0 w1 ns gl cl gr cr g k :=
  ⟨below_step h.below h.base hb, ownsRow_below h.left hb, ownsRow_below h.right hb, by obtain ⟨xs, h1, h2⟩ := h.wrow; exact ⟨xs, ownsRow_below h1 hb, h2⟩, h.lne, h.rne, Nat.le_trans h.base hb.size⟩
theorem WInv.alloc {B : Nat} {w0 wr : World} {ns : List NodeD} {gl cl gr cr g k : Nat} (h : WInv B w0 wr ns gl cl gr cr g k) (o : Obj) : WInv B w0 (wr.alloc o) ns gl cl gr cr g k := h.same ((Below.refl _ _).alloc (Nat.le_refl _) _)
theorem WInv.drew {B : Nat} {w0 wr : World} {ns : List NodeD} {gl cl gr cr g k : Nat} (h : WInv B w0 wr ns gl cl gr cr g k) : WInv B w0 wr.drew ns gl cl gr cr g k := h.same (Below.refl _ _).drew
theorem WInv.store {B : Nat} {w0 wr : World} {ns : List NodeD} {gl cl gr cr g k : Nat} (h : WInv B w0 wr ns gl cl gr cr g k) (u : Value) : WInv B w0 (wr.setCell ⟨g, k, none⟩ u) ns gl cl gr cr g k := by
  obtain ⟨xs, h1, h2⟩ := h.wrow
  obtain ⟨s1, s2⟩ := h1.stored k u
  refine ⟨h.below.setCell (own_form h1).1 _, kept1 h.left s2 h.lne, kept1 h.right s2 h.rne, ⟨_, s1, fun j hj => ?_⟩, h.lne, h.rne, by simpa [World.setCell] using h.base⟩
  rw [List.getElem?_set_ne (by omega)]
  exact h2 j hj
theorem WInv.put {B : Nat} {w0 wr : World} {ns : List NodeD} {gl cl gr cr g k : Nat} (h : WInv B w0 wr ns gl cl gr cr g k) (hk : k < ns.length) {u : Int} (hu : u = wOf ns k) : WInv B w0 (wr.setCell ⟨g, k, none⟩ (.int .i64 u)) ns gl cl gr cr g (k + 1) := by
  subst hu
  obtain ⟨xs, h1, h2⟩ := h.wrow
  obtain ⟨s1, s2⟩ := h1.stored k (.int .i64 (wOf ns k))
  refine ⟨h.below.setCell (own_form h1).1 _, kept1 h.left s2 h.lne, kept1 h.right s2 h.rne, ⟨_, s1, fun j hj => ?_⟩, h.lne, h.rne, by simpa [World.setCell] using h.base⟩
  by_cases e : j = k
  · subst e
    rw [List.getElem?_set_self (by have := h1.1; omega)]
  · rw [List.getElem?_set_ne (by omega)]
    exact h2 j (by omega)
theorem WInv.cellW {B : Nat} {w0 wr : World} {ns : List NodeD} {gl cl gr cr g k : Nat} (h : WInv B w0 wr ns gl cl gr cr g k) {j : Nat} (hj : j < k) (hn : j < ns.length) : wr.cell? ⟨g, j, none⟩ = some (.int .i64 (wOf ns j)) := by
  obtain ⟨xs, h1, h2⟩ := h.wrow
  rw [h1.cellAt j (by omega)]
  exact h2 j hj
theorem WInv.cellK {B : Nat} {w0 wr : World} {ns : List NodeD} {gl cl gr cr g k : Nat} (h : WInv B w0 wr ns gl cl gr cr g k) (hn : k < ns.length) : (∃ u, wr.cell? ⟨g, k, none⟩ = some u) ∧ wr.frozen? ⟨g, k, none⟩ = false := by
  obtain ⟨xs, h1, h2⟩ := h.wrow
  exact ⟨own_cell h1 (by omega), h1.frozenAt k⟩
theorem WInv.cellL {B : Nat} {w0 wr : World} {ns : List NodeD} {gl cl gr cr g k : Nat} (h : WInv B w0 wr ns gl cl gr cr g k) (hn : k < ns.length) : wr.cell? ⟨gl, k, none⟩ = some (.int .i64 (leftOf ns k)) := by
  rw [h.left.cellAt k (by omega)]
  simp [rowL, hn]
theorem WInv.cellR {B : Nat} {w0 wr : World} {ns : List NodeD} {gl cl gr cr g k : Nat} (h : WInv B w0 wr ns gl cl gr cr g k) (hn : k < ns.length) : wr.cell? ⟨gr, k, none⟩ = some (.int .i64 (rightOf ns k)) := by
  rw [h.right.cellAt k (by omega)]
  simp [rowR, hn]
theorem WInv.lt {B : Nat} {w0 wr : World} {ns : List NodeD} {gl cl gr cr g k : Nat} (h : WInv B w0 wr ns gl cl gr cr g k) : gl < wr.heap.size ∧ gr < wr.heap.size ∧ g < wr.heap.size := by
  obtain ⟨xs, h1, h2⟩ := h.wrow
  exact ⟨own_lt h.left, own_lt h.right, own_lt h1⟩

/-- The operands of node k. -/
theorem kids_two {ns : List NodeD} {k : Nat} (ha : arity (kindAt ns k) = 2) (hl : 2 ≤ (stk ns k).length) : ∃ x y : Nat, leftOf ns k = x ∧ rightOf ns k = y ∧ x < k ∧ y < k ∧ (wstk ns k).drop ((wstk ns k).length - 2) = [wOf ns x, wOf ns y] := by
  have hm : ∀ j, j < (stk ns k).length → (stk ns k).getD j 0 < k := fun j hj => stk_lt ns k _ (by
    rw [List.getD_eq_getElem?_getD, List.getElem?_eq_getElem hj]
    exact List.getElem_mem _)
  refine ⟨(stk ns k).getD ((stk ns k).length - 2) 0, (stk ns k).getD ((stk ns k).length - 1) 0, ?_, ?_, hm _ (by omega), hm _ (by omega), ?_⟩
  · rw [leftOf, ha, if_neg (by omega)]
  · rw [rightOf, if_pos ha]
  · have hw := stk_wlen ns k
    have e1 := wstk_get ns k ((stk ns k).length - 2) (by omega)
    have e2 := wstk_get ns k ((stk ns k).length - 1) (by omega)
    rw [← e1, ← e2]
    apply List.ext_getElem?
    intro i
    rw [List.getElem?_drop]
    match i with
    | 0 => rw [hw, Nat.add_zero, List.getElem?_eq_getElem (by omega)]; simp [List.getD_eq_getElem?_getD, List.getElem?_eq_getElem (show (stk ns k).length - 2 < (wstk ns k).length by omega)]
    | 1 => rw [hw, show (stk ns k).length - 2 + 1 = (stk ns k).length - 1 by omega, List.getElem?_eq_getElem (by omega)]; simp [List.getD_eq_getElem?_getD, List.getElem?_eq_getElem (show (stk ns k).length - 1 < (wstk ns k).length by omega)]
    | i + 2 => rw [List.getElem?_eq_none (by omega)]; simp
theorem kids_one {ns : List NodeD} {k : Nat} (ha : arity (kindAt ns k) = 1) (hl : 1 ≤ (stk ns k).length) : ∃ x : Nat, leftOf ns k = x ∧ x < k ∧ ((wstk ns k).drop ((wstk ns k).length - 1)).getD 0 0 = wOf ns x := by
  have hm : ∀ j, j < (stk ns k).length → (stk ns k).getD j 0 < k := fun j hj => stk_lt ns k _ (by
    rw [List.getD_eq_getElem?_getD, List.getElem?_eq_getElem hj]
    exact List.getElem_mem _)
  refine ⟨(stk ns k).getD ((stk ns k).length - 1) 0, ?_, hm _ (by omega), ?_⟩
  · rw [leftOf, ha, if_neg (by omega)]
  · rw [drop_one, stk_wlen]
    exact wstk_get ns k ((stk ns k).length - 1) (by omega)
end Go.Proofs.YthgaeaihfbiolaaDoor
