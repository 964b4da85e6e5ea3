import Derived.Test.YtplhghhfdabccaaDfaS
import Derived.Test.YtplhghhfdabccaaRow
import Derived.ProofKit
import Derived.Deep.Slices
import Derived.Deep.Strs
import Derived.Lib.SmallJoins
namespace Go.Proofs.Ytplhghhfdabccaa
open Go.RowKit Go.ChangeShapes Go.WideShapes Go.ChangeAt

theorem Try.cellsInt : Try.prog.cellsOf 3 = 1 := by kernel_rfl
theorem Try.cellsIntS : Try.prog.cellsOf 33 = 1 := by kernel_rfl
theorem Try.cellsDfa : Try.prog.cellsOf 35 = 5 := by kernel_rfl

theorem array5 {α : Type} {cs : Array α} (h : cs.size = 5) : ∃ c0 c1 c2 c3 c4, cs = #[c0, c1, c2, c3, c4] := by
  obtain ⟨l⟩ := cs
  match l, h with
  | [c0, c1, c2, c3, c4], _ => exact ⟨c0, c1, c2, c3, c4, rfl⟩

section
variable {H : Type} {enc : TypeId × Value → H} {W : World} {spare : Nat → Bool} {held : Bool}

theorem read_ints {fuel : Nat} {c : Value} {x : DataW H × List MemPlace} (h : DataW.trod enc Try.prog W 0 spare held fuel 33 [c] = some x) : ∃ xs, IntsAt 0 W c xs := by
  rcases Go.Deep.open_slice Try.underlying33 h with ⟨hc, _⟩ | ⟨a, len, cap, m, n, D, Pl, hc, _, hlc, hcm, hmm, _, hx⟩
  · simp only [List.cons.injEq, and_true] at hc
    exact ⟨[], none, 0, hc, by simp, fun h0 => absurd h0 (Nat.not_lt_zero _)⟩
  · simp only [List.cons.injEq, and_true] at hc
    have hlm : len ≤ m := by rw [hmm]; split <;> omega
    rw [Try.cellsInt] at hx
    rcases Nat.eq_zero_or_pos len with h0 | h0
    · subst h0
      exact ⟨[], some a, cap, hc, by simp, fun h0 => absurd h0 (Nat.not_lt_zero _)⟩
    · obtain ⟨b, o, C, rfl, hb, hC⟩ := open_rows (W := W) (a := a) (len := len) (sz := 1) (E := fun cs => ∃ r : Int, cs = [.int .i64 r]) (by omega) (fun i hi => by
        obtain ⟨cs', h1, h2⟩ := hx i (by omega)
        obtain ⟨k, he, _, _⟩ := DataW.trod_int Try.underlying3 h2
        exact ⟨cs', h1, k, he⟩) h0
      obtain ⟨F, hF⟩ := Go.Deep.choose_lt (α := Int) (p := fun i r => C i = [.int .i64 r]) (fun i hi => (hC i hi).1)
      refine ⟨(List.range len).map F, some ⟨b, o, none⟩, cap, by rw [hc]; simp, by simp; exact maxLen_num (Nat.le_trans hlc hcm), fun _ => ⟨b, o, rfl, Nat.zero_le _, hb, fun i hi => ?_⟩⟩
      have hi' : i < len := by simpa using hi
      rw [range_map_get F 0 len i hi']
      have q0 := (hC i hi').2 0 (by omega)
      rw [hF i hi'] at q0
      simpa using q0

set_option maxRecDepth 100000 in
/-- An automaton handed in by value. -/
theorem open_dfa {r : Reach} {b0 : Nat} {v : Value} {d : DataW H} {p : List MemPlace} (hv : Value.okWide Try.prog W r b0 35 v) (h : DataW.Trod enc Try.prog W 0 spare held 35 v d p) :
    ∃ (cv nv tv ev : Value) (D : DfaD), v = .agg #[cv, .int .i64 D.width, nv, tv, ev] ∧ DfaAt 0 W cv nv tv ev D := by
  obtain ⟨cs, rfl, hsz⟩ := okWide_struct Try.underlying35 hv
  obtain ⟨c0, c1, c2, c3, c4, rfl⟩ := array5 (hsz.trans Try.cellsDfa)
  obtain ⟨fuel, hf0⟩ := h
  obtain ⟨xs, n, _, _, _, hlen, hf⟩ := DataW.trod_struct Try.underlying35 hf0
  obtain ⟨y0, y1, y2, y3, y4, rfl⟩ := list5 (show xs.length = 5 from hlen)
  have f0 := hf 0 _ rfl
  have f1 := hf 1 _ rfl
  have f2 := hf 2 _ rfl
  have f3 := hf 3 _ rfl
  have f4 := hf 4 _ rfl
  simp [Try.cellsInt, Try.cellsIntS, Value.cells] at f0 f1 f2 f3 f4
  obtain ⟨cl, hcl⟩ := read_ints f0
  obtain ⟨wd, e1, _, _⟩ := DataW.trod_int Try.underlying3 f1
  obtain ⟨nx, hnx⟩ := read_ints f2
  obtain ⟨tg, htg⟩ := read_ints f3
  obtain ⟨en, hen⟩ := read_ints f4
  simp only [List.cons.injEq, and_true] at e1
  exact ⟨c0, c2, c3, c4, ⟨cl, wd, nx, tg, en⟩, by rw [e1], hcl, hnx, htg, hen⟩
end
end Go.Proofs.Ytplhghhfdabccaa
