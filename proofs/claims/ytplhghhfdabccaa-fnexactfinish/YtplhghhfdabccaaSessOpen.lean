import Derived.Test.YtplhghhfdabccaaSessLaw
import Derived.ProofKit
import Derived.ChangeMaps5
import Derived.Lib.SmallJoins
namespace Go.Proofs.Ytplhghhfdabccaa
open Go.RowKit Go.ChangeShapes Go.WideShapes Go.ChangeAt

theorem Try.cellsInt : Try.prog.cellsOf 3 = 1 := by kernel_rfl
theorem Try.cellsStr : Try.prog.cellsOf 9 = 1 := by kernel_rfl
theorem Try.cellsBool : Try.prog.cellsOf 4 = 1 := by kernel_rfl
theorem Try.cellsSess : Try.prog.cellsOf 64 = 5 := by kernel_rfl

theorem array5 {α : Type} {cs : Array α} (h : cs.size = 5) : ∃ c0 c1 c2 c3 c4, cs = #[c0, c1, c2, c3, c4] := by
  obtain ⟨l⟩ := cs
  match l, h with
  | [c0, c1, c2, c3, c4], _ => exact ⟨c0, c1, c2, c3, c4, rfl⟩

section
variable {H : Type} {enc : TypeId × Value → H} {W : World} {spare : Nat → Bool} {held : Bool}

set_option maxRecDepth 100000 in
/-- A session handed in by value. -/
theorem open_sess {r : Reach} {b0 : Nat} {v : Value} {d : DataW H} {p : List MemPlace} (hv : Value.okWide Try.prog W r b0 64 v) (h : DataW.Trod enc Try.prog W 0 spare held 64 v d p) :
    ∃ s : SessD, v = .agg #[.int .i64 s.L, .string s.B, .bool s.C, .int .i64 s.S, .int .i64 s.N] ∧ s.B.size ≤ 9223372036854775807 := by
  obtain ⟨cs, rfl, hsz⟩ := okWide_struct Try.underlying64 hv
  obtain ⟨c0, c1, c2, c3, c4, rfl⟩ := array5 (hsz.trans Try.cellsSess)
  obtain ⟨fuel, hf0⟩ := h
  obtain ⟨xs, n, _, _, _, hlen, hf⟩ := DataW.trod_struct Try.underlying64 hf0
  obtain ⟨y0, y1, y2, y3, y4, rfl⟩ := list5 (show xs.length = 5 from hlen)
  have f0 := hf 0 _ rfl
  have f1 := hf 1 _ rfl
  have f2 := hf 2 _ rfl
  have f3 := hf 3 _ rfl
  have f4 := hf 4 _ rfl
  simp [Try.cellsInt, Try.cellsStr, Try.cellsBool, Value.cells] at f0 f1 f2 f3 f4
  obtain ⟨L, e0, _, _⟩ := DataW.trod_int Try.underlying3 f0
  obtain ⟨B, e1, _, hB⟩ := DataW.trod_string Try.underlying9 f1
  obtain ⟨C, e2, _⟩ := DataW.trod_bool Try.underlying4 f2
  obtain ⟨S, e3, _, _⟩ := DataW.trod_int Try.underlying3 f3
  obtain ⟨N, e4, _, _⟩ := DataW.trod_int Try.underlying3 f4
  simp only [List.cons.injEq, and_true] at e0 e1 e2 e3 e4
  exact ⟨⟨L, B, C, S, N⟩, by rw [e0, e1, e2, e3, e4], maxLen_num hB⟩
end
end Go.Proofs.Ytplhghhfdabccaa
