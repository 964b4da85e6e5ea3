import Derived.Test.YtplhghhfdabccaaDfaOpen
import Derived.Test.YtplhghhfdabccaaTabTo
namespace Go.Proofs.Ytplhghhfdabccaa
open Go.RowKit Go.ChangeShapes Go.WideShapes Go.ChangeAt

theorem Try.cellsTab : Try.prog.cellsOf 45 = 8 := by kernel_rfl
theorem array8 {α : Type} {cs : Array α} (h : cs.size = 8) : ∃ c0 c1 c2 c3 c4 c5 c6 c7, cs = #[c0, c1, c2, c3, c4, c5, c6, c7] := by
  obtain ⟨l⟩ := cs
  match l, h with
  | [c0, c1, c2, c3, c4, c5, c6, c7], _ => exact ⟨c0, c1, c2, c3, c4, c5, c6, c7, rfl⟩
theorem list8 {α : Type} {l : List α} (h : l.length = 8) : ∃ c0 c1 c2 c3 c4 c5 c6 c7, l = [c0, c1, c2, c3, c4, c5, c6, c7] := by
  match l, h with
  | [c0, c1, c2, c3, c4, c5, c6, c7], _ => exact ⟨c0, c1, c2, c3, c4, c5, c6, c7, rfl⟩

section
variable {H : Type} {enc : TypeId × Value → H} {W : World} {spare : Nat → Bool} {held : Bool}
set_option maxRecDepth 100000 in
/-- A table handed in by value. -/
theorem open_tab {r : Reach} {b0 : Nat} {v : Value} {d : DataW H} {p : List MemPlace} (hv : Value.okWide Try.prog W r b0 45 v) (h : DataW.Trod enc Try.prog W 0 spare held 45 v d p) :
    ∃ (cv bv fv tv ev nv kv : Value) (D : TabD), v = .agg #[cv, .int .i64 D.width, bv, fv, tv, ev, nv, kv] ∧ TabAt 0 W cv bv fv tv ev nv kv D := by
  obtain ⟨cs, rfl, hsz⟩ := okWide_struct Try.underlying45 hv
  obtain ⟨c0, c1, c2, c3, c4, c5, c6, c7, rfl⟩ := array8 (hsz.trans Try.cellsTab)
  obtain ⟨fuel, hf0⟩ := h
  obtain ⟨xs, n, _, _, _, hlen, hf⟩ := DataW.trod_struct Try.underlying45 hf0
  obtain ⟨y0, y1, y2, y3, y4, y5, y6, y7, rfl⟩ := list8 (show xs.length = 8 from hlen)
  have f0 := hf 0 _ rfl
  have f1 := hf 1 _ rfl
  have f2 := hf 2 _ rfl
  have f3 := hf 3 _ rfl
  have f4 := hf 4 _ rfl
  have f5 := hf 5 _ rfl
  have f6 := hf 6 _ rfl
  have f7 := hf 7 _ rfl
  simp [Try.cellsInt, Try.cellsIntS, Value.cells] at f0 f1 f2 f3 f4 f5 f6 f7
  obtain ⟨wd, e1, _, _⟩ := DataW.trod_int Try.underlying3 f1
  obtain ⟨l0, h0⟩ := read_ints f0
  obtain ⟨l2, h2⟩ := read_ints f2
  obtain ⟨l3, h3⟩ := read_ints f3
  obtain ⟨l4, h4⟩ := read_ints f4
  obtain ⟨l5, h5⟩ := read_ints f5
  obtain ⟨l6, h6⟩ := read_ints f6
  obtain ⟨l7, h7⟩ := read_ints f7
  simp only [List.cons.injEq, and_true] at e1
  exact ⟨c0, c2, c3, c4, c5, c6, c7, ⟨l0, wd, l2, l3, l4, l5, l6, l7⟩, by rw [e1], h0, h2, h3, h4, h5, h6, h7⟩
end
end Go.Proofs.Ytplhghhfdabccaa
