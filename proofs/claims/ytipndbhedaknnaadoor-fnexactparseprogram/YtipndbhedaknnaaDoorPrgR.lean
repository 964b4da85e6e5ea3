import Derived.Test.YtipndbhedaknnaaDoorPrg
namespace Go.Proofs.YtipndbhedaknnaaDoor
open Go.RowKit

/-- Where the reading of a program stands in memory: B is the heap's size behind the cutting into lines. -/
structure RelP (w : World) (B lg lcap : Nat) (lines : List (List UInt8)) (W : World) (sv : Value) (cv : Nat → Value) (p : PrD) : Prop where
  below : Below w.heap.size w W
  size : B ≤ W.heap.size
  base : w.heap.size + 2 ≤ B
  lgB : lg < B
  lgA : w.heap.size + 2 ≤ lg
  res : W.heap[w.heap.size]? = some (.cells #[.int .i64 0, .int .i64 0, .slice none 0 0] 24 (0, 0))
  box : W.heap[w.heap.size + 1]? = some (.cells #[.int .i64 p.lim, .int .i64 p.most, sv] 24 (0, 0))
  V : PrV B W sv cv p.states
  lns : Strs 0 W lg lcap lines
variable {w W W' : World} {B lg lcap : Nat} {lines : List (List UInt8)} {sv : Value} {cv : Nat → Value} {p : PrD}
theorem RelP.call (h : RelP w B lg lcap lines W sv cv p) (hb : Below W.heap.size W W') : RelP w B lg lcap lines W' sv cv p :=
  ⟨below_step h.below h.below.size hb, Nat.le_trans h.size hb.size, h.base, h.lgB, h.lgA, row_below h.res hb, row_below h.box hb, h.V.below hb, h.lns.below hb⟩
/-- Another world over B, with other rows. -/
theorem RelP.over (h : RelP w B lg lcap lines W sv cv p) (hb : Below B W W') {ss : List StD} {cv' : Nat → Value} (hV : PrV B W' sv cv' ss) : RelP w B lg lcap lines W' sv cv' ⟨p.lim, p.most, ss⟩ :=
  ⟨h.below.trans (hb.mono (by have := h.base; omega)), Nat.le_trans h.size hb.size, h.base, h.lgB, h.lgA, (hb.block _ (by have := h.base; omega)).trans h.res, (hb.block _ (by have := h.base; omega)).trans h.box, hV,
    ownsRow_block h.lns (hb.block lg h.lgB)⟩
theorem Below.grow_over {row : Option Nat} (g : W.grownBy W' row) (hB : B ≤ W.heap.size) (hr : ∀ b, row = some b → B ≤ b) : Below B W W' :=
  ⟨g.os, g.tape, g.output, g.size, fun k hk => g.block k (by omega) (fun e => by have := hr k e.symm; omega)⟩
/-- A cell of the box stored. -/
theorem box_other (W : World) (b i : Nat) (u : Value) {k : Nat} (h : k ≠ b) : (W.setCell ⟨b, i, none⟩ u).heap[k]? = W.heap[k]? := heap_setCell_other _ _ _ _ (by exact h)
theorem RelP.lim (h : RelP w B lg lcap lines W sv cv p) (x y : Int) : RelP w B lg lcap lines ((W.setCell ⟨w.heap.size + 1, 0, none⟩ (.int .i64 x)).setCell ⟨w.heap.size + 1, 1, none⟩ (.int .i64 y)) sv cv ⟨x, y, p.states⟩ := by
  have hB := h.base
  refine ⟨(h.below.setCell (by simp) _).setCell (by simp) _, by simpa [World.setCell] using h.size, hB, h.lgB, h.lgA, ?_, ?_, h.V.keep fun b hb => ?_, ownsRow_block h.lns ?_⟩
  · rw [box_other _ _ _ _ (by omega), box_other _ _ _ _ (by omega)]; exact h.res
  · rw [heap_setCell_same _ _ 1 _ _ _ (heap_setCell_same _ _ 0 _ _ _ h.box)]; rfl
  · have := (h.V.lt hb).1
    rw [box_other _ _ _ _ (by omega), box_other _ _ _ _ (by omega)]
  · have := h.lgA
    rw [box_other _ _ _ _ (by omega), box_other _ _ _ _ (by omega)]
theorem RelP.push (h : RelP w B lg lcap lines W sv cv p) {s : StD} (hs : s.cases = []) {g' cap' : Nat}
    (own : W'.ownsRow B 45 10 (.slice (some ⟨g', 0, none⟩) (p.states.length + 1) cap') (p.states.length + 1) (stsCells cv p.states ++ stCells (.slice none 0 0) s)) (gr : W.grownBy W' sv.ownBlock) (hat : sv.ownBlock = some g' ∨ W.heap.size ≤ g') :
    RelP w B lg lcap lines (W'.setCell ⟨w.heap.size + 1, 2, none⟩ (.slice (some ⟨g', 0, none⟩) (p.states.length + 1) cap')) (.slice (some ⟨g', 0, none⟩) (p.states.length + 1) cap') (updV cv p.states.length (.slice none 0 0)) ⟨p.lim, p.most, p.states ++ [s]⟩ := by
  have hB := h.base
  have hV := h.V.push hs own gr hat
  have bl : Below B W W' := Below.grow_over gr h.size fun b hb => (h.V.lt (.inl hb)).1
  refine ⟨(h.below.trans (bl.mono (by omega))).setCell (by simp) _, by have := bl.size; have := h.size; simp [World.setCell]; omega, hB, h.lgB, h.lgA, ?_, ?_, hV.keep fun b hb => ?_, ownsRow_block h.lns ?_⟩
  · rw [box_other _ _ _ _ (by omega)]; exact (bl.block _ (by omega)).trans h.res
  · rw [heap_setCell_same _ _ 2 _ _ _ ((bl.block _ (by omega)).trans h.box)]; rfl
  · have := (hV.lt hb).1
    rw [box_other _ _ _ _ (by omega)]
  · have := h.lgA
    rw [box_other _ _ _ _ (by omega)]
    exact bl.block lg h.lgB
variable {sg cap : Nat} {a b : Int} {ini : List StD} {s : StD}
theorem RelP.sgB (h : RelP w B lg lcap lines W (.slice (some ⟨sg, 0, none⟩) (ini.length + 1) cap) cv ⟨a, b, ini ++ [s]⟩) : B ≤ sg ∧ sg < W.heap.size := h.V.lt (.inl rfl)
theorem RelP.case (h : RelP w B lg lcap lines W (.slice (some ⟨sg, 0, none⟩) (ini.length + 1) cap) cv ⟨a, b, ini ++ [s]⟩) {c : CaseD} {g' cap' : Nat}
    (own : W'.ownsRow B 47 4 (.slice (some ⟨g', 0, none⟩) (s.cases.length + 1) cap') (s.cases.length + 1) (csCells s.cases ++ csCells [c])) (gr : W.grownBy W' (cv ini.length).ownBlock) (hat : (cv ini.length).ownBlock = some g' ∨ W.heap.size ≤ g') :
    RelP w B lg lcap lines (W'.setCell ⟨sg, ini.length * 10, none⟩ (.slice (some ⟨g', 0, none⟩) (s.cases.length + 1) cap')) (.slice (some ⟨sg, 0, none⟩) (ini.length + 1) cap) (updV cv ini.length (.slice (some ⟨g', 0, none⟩) (s.cases.length + 1) cap')) ⟨a, b, ini ++ [{ s with cases := s.cases ++ [c] }]⟩ := by
  have bl : Below B W W' := Below.grow_over gr h.size fun b hb => (h.V.lt (.inr ⟨ini.length, by simp, hb⟩)).1
  exact h.over (bl.setCell (by exact h.sgB.1) _) (h.V.case own gr hat)
theorem RelP.cell (h : RelP w B lg lcap lines W (.slice (some ⟨sg, 0, none⟩) (ini.length + 1) cap) cv ⟨a, b, ini ++ [s]⟩) {c : Nat} (hc : c < 10) {u : Value} {s' : StD} (hs : s'.cases = s.cases) (he : stCells (cv ini.length) s' = (stCells (cv ini.length) s).set c u) :
    RelP w B lg lcap lines (W.setCell ⟨sg, ini.length * 10 + c, none⟩ u) (.slice (some ⟨sg, 0, none⟩) (ini.length + 1) cap) cv ⟨a, b, ini ++ [s']⟩ :=
  h.over ((Below.refl _ _).setCell (by exact h.sgB.1) _) (h.V.cell hc hs he)
theorem RelP.tmo (h : RelP w B lg lcap lines W (.slice (some ⟨sg, 0, none⟩) (ini.length + 1) cap) cv ⟨a, b, ini ++ [s]⟩) (x go ex : Int) (send : List UInt8) :
    RelP w B lg lcap lines ((((W.setCell ⟨sg, ini.length * 10 + 1, none⟩ (.int .i64 x)).setCell ⟨sg, ini.length * 10 + 2, none⟩ (.int .i64 go)).setCell ⟨sg, ini.length * 10 + 3, none⟩ (.int .i64 ex)).setCell ⟨sg, ini.length * 10 + 4, none⟩ (strV send)) (.slice (some ⟨sg, 0, none⟩) (ini.length + 1) cap) cv ⟨a, b, ini ++ [{ s with tmo := x, onT := ⟨go, ex, send⟩ }]⟩ :=
  (((h.cell (c := 1) (s' := { s with tmo := x }) (by omega) rfl rfl).cell (c := 2) (s' := { s with tmo := x, onT := ⟨go, s.onT.ex, s.onT.send⟩ }) (by omega) rfl rfl).cell (c := 3) (s' := { s with tmo := x, onT := ⟨go, ex, s.onT.send⟩ }) (by omega) rfl rfl).cell (c := 4) (by omega) rfl rfl
theorem RelP.ful (h : RelP w B lg lcap lines W (.slice (some ⟨sg, 0, none⟩) (ini.length + 1) cap) cv ⟨a, b, ini ++ [s]⟩) (go ex : Int) (send : List UInt8) :
    RelP w B lg lcap lines ((((W.setCell ⟨sg, ini.length * 10 + 5, none⟩ (.bool true)).setCell ⟨sg, ini.length * 10 + 6, none⟩ (.int .i64 go)).setCell ⟨sg, ini.length * 10 + 7, none⟩ (.int .i64 ex)).setCell ⟨sg, ini.length * 10 + 8, none⟩ (strV send)) (.slice (some ⟨sg, 0, none⟩) (ini.length + 1) cap) cv ⟨a, b, ini ++ [{ s with full := true, onF := ⟨go, ex, send⟩ }]⟩ :=
  (((h.cell (c := 5) (s' := { s with full := true }) (by omega) rfl rfl).cell (c := 6) (s' := { s with full := true, onF := ⟨go, s.onF.ex, s.onF.send⟩ }) (by omega) rfl rfl).cell (c := 7) (s' := { s with full := true, onF := ⟨go, ex, s.onF.send⟩ }) (by omega) rfl rfl).cell (c := 8) (by omega) rfl rfl
/-- The cells of the last state. -/
theorem RelP.last (h : RelP w B lg lcap lines W (.slice (some ⟨sg, 0, none⟩) (ini.length + 1) cap) cv ⟨a, b, ini ++ [s]⟩) (c : Nat) (hc : c < 10) : W.cell? ⟨sg, ini.length * 10 + c, none⟩ = (stCells (cv ini.length) s)[c]? ∧ W.frozen? ⟨sg, ini.length * 10 + c, none⟩ = false := by
  have hr : W.ownsRow B 45 10 (.slice (some ⟨sg, 0, none⟩) (ini.length + 1) cap) (ini.length + 1) (stsCells cv ini ++ stCells (cv ini.length) s) := by
    have := h.V.row
    rw [stsCells_app, List.length_append] at this
    exact this
  have hl := stsCells_len cv ini
  refine ⟨?_, hr.frozenAt _⟩
  rw [hr.cellAt _ (by omega), List.getElem?_append_right (by omega), show ini.length * 10 + c - (stsCells cv ini).length = c by omega]
theorem RelP.slen {ss : List StD} (h : RelP w B lg lcap lines W sv cv ⟨a, b, ss⟩) : ∃ ao cap, sv = .slice ao ss.length cap := by
  obtain ⟨_, h2⟩ := h.V.row
  rcases h2 with ⟨hv, h0⟩ | ⟨g, cap, cur, hv, _⟩
  · exact ⟨_, _, by rw [hv, h0]⟩
  · exact ⟨_, _, hv⟩
/-- The slice of the states, by their number. -/
theorem RelP.form (h : RelP w B lg lcap lines W sv cv ⟨a, b, ini ++ [s]⟩) : ∃ sg cap, sv = .slice (some ⟨sg, 0, none⟩) (ini.length + 1) cap := by
  obtain ⟨_, h2⟩ := h.V.row
  rcases h2 with ⟨_, h0⟩ | ⟨g, cap, cur, hv, _⟩
  · simp at h0
  · exact ⟨g, cap, by rw [hv, List.length_append]; rfl⟩
theorem RelP.nil (h : RelP w B lg lcap lines W sv cv ⟨a, b, []⟩) : ∃ ao cap, sv = .slice ao 0 cap := by
  obtain ⟨_, h2⟩ := h.V.row
  rcases h2 with ⟨hv, _⟩ | ⟨g, cap, cur, hv, _⟩
  · exact ⟨_, _, hv⟩
  · exact ⟨_, _, hv⟩
/-- The slice of the last state's cases. -/
theorem RelP.cs (h : RelP w B lg lcap lines W sv cv ⟨a, b, ini ++ [s]⟩) : W.ownsRow B 47 4 (cv ini.length) s.cases.length (csCells s.cases) ∧ ∃ ao c, cv ini.length = .slice ao s.cases.length c := by
  have hk := h.V.cas ini.length (by simp)
  rcases getLast_at ini s ini.length (by simp) with ⟨e3, _⟩ | ⟨_, e2⟩
  · omega
  · simp only at hk
    rw [e2] at hk
    refine ⟨hk, ?_⟩
    obtain ⟨_, h2⟩ := hk
    rcases h2 with ⟨hv, h0⟩ | ⟨g, cap, cur, hv, _⟩
    · exact ⟨_, _, by rw [hv, h0]⟩
    · exact ⟨_, _, hv⟩
end Go.Proofs.YtipndbhedaknnaaDoor
