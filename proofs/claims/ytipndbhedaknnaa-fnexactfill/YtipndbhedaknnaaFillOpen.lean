import Derived.Test.YtipndbhedaknnaaFillLaw
import Derived.ProofKit
import Derived.ChangeMaps5
import Derived.Deep.Slices
import Derived.Deep.Strs
import Derived.Lib.SmallJoins
namespace Go.Proofs.Ytipndbhedaknnaa
open Go.RowKit Go.ChangeShapes Go.WideShapes Go.ChangeAt

theorem Try.cellsInt : Try.prog.cellsOf 3 = 1 := by kernel_rfl
theorem Try.cellsPair : Try.prog.cellsOf 34 = 2 := by kernel_rfl

section
variable {H : Type} {enc : TypeId × Value → H} {W : World} {spare : Nat → Bool} {held : Bool}

set_option maxRecDepth 100000 in
theorem read_pair {fuel : Nat} {cs : List Value} {x : DataW H × List MemPlace} (h : DataW.trod enc Try.prog W 0 spare held fuel 34 cs = some x) : ∃ lo hi : Int, cs = [.int .i64 lo, .int .i64 hi] := by
  obtain ⟨y0, y1, n, _, hl, h0, h1⟩ := trod_struct2 Try.underlying34 h
  rw [Try.cellsPair] at hl
  match cs, hl with
  | [c0, c1], _ =>
    simp [Try.cellsInt] at h0 h1
    obtain ⟨a, e0, _, _⟩ := DataW.trod_int Try.underlying3 h0
    obtain ⟨b, e1, _, _⟩ := DataW.trod_int Try.underlying3 h1
    simp only [List.cons.injEq, and_true] at e0 e1
    exact ⟨a, b, by rw [e0, e1]⟩

set_option maxRecDepth 100000 in
theorem read_pairs {fuel : Nat} {c : Value} {x : DataW H × List MemPlace} (h : DataW.trod enc Try.prog W 0 spare held fuel 22 [c] = some x) : ∃ rs, RangesAt 0 W c rs := by
  rcases Go.Deep.open_slice Try.underlying22 h with ⟨hc, _⟩ | ⟨a, len, cap, m, n, D, Pl, hc, _, hlc, hcm, hmm, _, hx⟩
  · simp only [List.cons.injEq, and_true] at hc
    exact ⟨[], none, 0, hc, by simp, fun h0 => absurd h0 (Nat.not_lt_zero _)⟩
  · simp only [List.cons.injEq, and_true] at hc
    have hlm : len ≤ m := by rw [hmm]; split <;> omega
    rw [Try.cellsPair] at hx
    rcases Nat.eq_zero_or_pos len with h0 | h0
    · subst h0
      exact ⟨[], some a, cap, hc, by simp, fun h0 => absurd h0 (Nat.not_lt_zero _)⟩
    · obtain ⟨b, o, C, rfl, hb, hC⟩ := open_rows (W := W) (a := a) (len := len) (sz := 2) (E := fun cs => ∃ r : Int × Int, cs = [.int .i64 r.1, .int .i64 r.2]) (by omega) (fun i hi => by
        obtain ⟨cs', h1, h2⟩ := hx i (by omega)
        obtain ⟨lo, hi', he⟩ := read_pair h2
        exact ⟨cs', h1, (lo, hi'), he⟩) h0
      obtain ⟨F, hF⟩ := Go.Deep.choose_lt (α := Int × Int) (p := fun i r => C i = [.int .i64 r.1, .int .i64 r.2]) (fun i hi => (hC i hi).1)
      refine ⟨(List.range len).map F, some ⟨b, o, none⟩, cap, by rw [hc]; simp, by simp; exact maxLen_num (Nat.le_trans hlc hcm), fun _ => ⟨b, o, rfl, Nat.zero_le _, hb, fun i hi => ?_⟩⟩
      have hi' : i < len := by simpa using hi
      rw [range_map_get F (0, 0) len i hi']
      have q0 := (hC i hi').2 0 (by omega)
      have q1 := (hC i hi').2 1 (by omega)
      rw [hF i hi'] at q0 q1
      exact ⟨by simpa using q0, by simpa using q1⟩

set_option maxRecDepth 100000 in
theorem open_pairs {r : Reach} {b0 : Nat} {v : Value} {d : DataW H} {p : List MemPlace} (hv : Value.okWide Try.prog W r b0 22 v) (h : DataW.Trod enc Try.prog W 0 spare held 22 v d p) : ∃ rs, RangesAt 0 W v rs := by
  obtain ⟨a, l, c, rfl⟩ := okWide_slice Try.underlying22 hv
  obtain ⟨fuel, hf⟩ := h
  exact read_pairs hf
end
end Go.Proofs.Ytipndbhedaknnaa
