import Derived.Test.YtplhghhfdabccaaLaw
import Derived.ProofKit
import Derived.Deep.Slices
import Derived.Deep.Strs
import Derived.Lib.SmallJoins
namespace Go.Proofs.Ytplhghhfdabccaa
open Go.RowKit Go.ChangeShapes Go.WideShapes Go.ChangeAt

theorem Try.cellsInt : Try.prog.cellsOf 3 = 1 := by kernel_rfl
theorem Try.cellsBool : Try.prog.cellsOf 4 = 1 := by kernel_rfl
theorem Try.cellsRange : Try.prog.cellsOf 192 = 2 := by kernel_rfl
theorem Try.cellsRangeS : Try.prog.cellsOf 168 = 1 := by kernel_rfl
theorem Try.cellsNode : Try.prog.cellsOf 170 = 5 := by kernel_rfl
theorem Try.cellsNodeS : Try.prog.cellsOf 133 = 1 := by kernel_rfl
theorem Try.cellsBranch : Try.prog.cellsOf 135 = 3 := by kernel_rfl
theorem Try.cellsBranchS : Try.prog.cellsOf 22 = 1 := by kernel_rfl
theorem Try.cellsRule : Try.prog.cellsOf 24 = 2 := by kernel_rfl

section
variable {H : Type} {enc : TypeId × Value → H} {W : World} {spare : Nat → Bool} {held : Bool}

set_option maxRecDepth 100000 in
theorem read_range {fuel : Nat} {cs : List Value} {x : DataW H × List MemPlace} (h : DataW.trod enc Try.prog W 0 spare held fuel 192 cs = some x) : ∃ lo hi : Int, cs = [.int .i64 lo, .int .i64 hi] := by
  obtain ⟨y0, y1, n, _, hl, h0, h1⟩ := trod_struct2 Try.underlying192 h
  rw [Try.cellsRange] at hl
  match cs, hl with
  | [c0, c1], _ =>
    simp [Try.cellsInt] at h0 h1
    obtain ⟨a, e0, _, _⟩ := DataW.trod_int Try.underlying3 h0
    obtain ⟨b, e1, _, _⟩ := DataW.trod_int Try.underlying3 h1
    simp only [List.cons.injEq, and_true] at e0 e1
    exact ⟨a, b, by rw [e0, e1]⟩

theorem read_ranges {fuel : Nat} {c : Value} {x : DataW H × List MemPlace} (h : DataW.trod enc Try.prog W 0 spare held fuel 168 [c] = some x) : ∃ rs, RangesAt 0 W c rs := by
  rcases Go.Deep.open_slice Try.underlying168 h with ⟨hc, _⟩ | ⟨a, len, cap, m, n, D, Pl, hc, _, hlc, hcm, hmm, _, hx⟩
  · simp only [List.cons.injEq, and_true] at hc
    exact ⟨[], none, 0, hc, by simp, fun h0 => absurd h0 (Nat.not_lt_zero _)⟩
  · simp only [List.cons.injEq, and_true] at hc
    have hlm : len ≤ m := by rw [hmm]; split <;> omega
    rw [Try.cellsRange] at hx
    rcases Nat.eq_zero_or_pos len with h0 | h0
    · subst h0
      exact ⟨[], some a, cap, hc, by simp, fun h0 => absurd h0 (Nat.not_lt_zero _)⟩
    · obtain ⟨b, o, C, rfl, hb, hC⟩ := open_rows (W := W) (a := a) (len := len) (sz := 2) (E := fun cs => ∃ r : Int × Int, cs = [.int .i64 r.1, .int .i64 r.2]) (by omega) (fun i hi => by
        obtain ⟨cs', h1, h2⟩ := hx i (by omega)
        obtain ⟨lo, hi', he⟩ := read_range h2
        exact ⟨cs', h1, (lo, hi'), he⟩) h0
      obtain ⟨F, hF⟩ := Go.Deep.choose_lt (α := Int × Int) (p := fun i r => C i = [.int .i64 r.1, .int .i64 r.2]) (fun i hi => (hC i hi).1)
      refine ⟨(List.range len).map F, some ⟨b, o, none⟩, cap, by rw [hc]; simp, by simp; exact maxLen_num (Nat.le_trans hlc hcm), fun _ => ⟨b, o, rfl, Nat.zero_le _, hb, fun i hi => ?_⟩⟩
      have hi' : i < len := by simpa using hi
      rw [range_map_get F (0, 0) len i hi']
      have q0 := (hC i hi').2 0 (by omega)
      have q1 := (hC i hi').2 1 (by omega)
      rw [hF i hi'] at q0 q1
      exact ⟨by simpa using q0, by simpa using q1⟩

set_option maxRecDepth 100000 in
theorem read_node {fuel : Nat} {cs : List Value} {x : DataW H × List MemPlace} (h : DataW.trod enc Try.prog W 0 spare held fuel 170 cs = some x) : ∃ (nd : NodeD) (sv : Value), cs = [.int .i64 nd.kind, sv, .int .i64 nd.min, .int .i64 nd.max, .int .i64 nd.group] ∧ RangesAt 0 W sv nd.set := by
  obtain ⟨xs, n, _, _, hl, hlen, hf⟩ := DataW.trod_struct Try.underlying170 h
  rw [Try.cellsNode] at hl
  obtain ⟨y0, y1, y2, y3, y4, rfl⟩ := list5 (show xs.length = 5 from hlen)
  obtain ⟨c0, c1, c2, c3, c4, rfl⟩ := list5 hl
  · · have f0 := hf 0 _ rfl
      have f1 := hf 1 _ rfl
      have f2 := hf 2 _ rfl
      have f3 := hf 3 _ rfl
      have f4 := hf 4 _ rfl
      simp [Try.cellsInt, Try.cellsRangeS] at f0 f1 f2 f3 f4
      obtain ⟨k, e0, _, _⟩ := DataW.trod_int Try.underlying3 f0
      obtain ⟨rs, hrs⟩ := read_ranges f1
      obtain ⟨mn, e2, _, _⟩ := DataW.trod_int Try.underlying3 f2
      obtain ⟨mx, e3, _, _⟩ := DataW.trod_int Try.underlying3 f3
      obtain ⟨g, e4, _, _⟩ := DataW.trod_int Try.underlying3 f4
      simp only [List.cons.injEq, and_true] at e0 e2 e3 e4
      exact ⟨⟨k, rs, mn, mx, g⟩, c1, by rw [e0, e2, e3, e4], hrs⟩

theorem read_nodes {fuel : Nat} {c : Value} {x : DataW H × List MemPlace} (h : DataW.trod enc Try.prog W 0 spare held fuel 133 [c] = some x) : ∃ ns, NodesAt 0 W c ns := by
  rcases Go.Deep.open_slice Try.underlying133 h with ⟨hc, _⟩ | ⟨a, len, cap, m, n, D, Pl, hc, _, hlc, hcm, hmm, _, hx⟩
  · simp only [List.cons.injEq, and_true] at hc
    exact ⟨[], none, 0, hc, by simp, fun h0 => absurd h0 (Nat.not_lt_zero _)⟩
  · simp only [List.cons.injEq, and_true] at hc
    have hlm : len ≤ m := by rw [hmm]; split <;> omega
    rw [Try.cellsNode] at hx
    rcases Nat.eq_zero_or_pos len with h0 | h0
    · subst h0
      exact ⟨[], some a, cap, hc, by simp, fun h0 => absurd h0 (Nat.not_lt_zero _)⟩
    · obtain ⟨b, o, C, rfl, hb, hC⟩ := open_rows (W := W) (a := a) (len := len) (sz := 5) (E := fun cs => ∃ q : NodeD × Value, cs = [.int .i64 q.1.kind, q.2, .int .i64 q.1.min, .int .i64 q.1.max, .int .i64 q.1.group] ∧ RangesAt 0 W q.2 q.1.set) (by omega) (fun i hi => by
        obtain ⟨cs', h1, h2⟩ := hx i (by omega)
        obtain ⟨nd, sv, he, hr⟩ := read_node h2
        exact ⟨cs', h1, (nd, sv), he, hr⟩) h0
      obtain ⟨F, hF⟩ := @Go.Deep.choose_lt (NodeD × Value) ⟨(.zero, .nilIface)⟩ len (fun i q => C i = [.int .i64 q.1.kind, q.2, .int .i64 q.1.min, .int .i64 q.1.max, .int .i64 q.1.group] ∧ RangesAt 0 W q.2 q.1.set) (fun i hi => (hC i hi).1)
      refine ⟨(List.range len).map fun i => (F i).1, some ⟨b, o, none⟩, cap, by rw [hc]; simp, by simp; exact maxLen_num (Nat.le_trans hlc hcm), fun _ => ⟨b, o, rfl, Nat.zero_le _, hb, fun i hi => ?_⟩⟩
      have hi' : i < len := by simpa using hi
      rw [range_map_get (fun i => (F i).1) .zero len i hi']
      have q0 := (hC i hi').2 0 (by omega)
      have q1 := (hC i hi').2 1 (by omega)
      have q2 := (hC i hi').2 2 (by omega)
      have q3 := (hC i hi').2 3 (by omega)
      have q4 := (hC i hi').2 4 (by omega)
      rw [(hF i hi').1] at q0 q1 q2 q3 q4
      exact ⟨by simpa using q0, ⟨(F i).2, by simpa using q1, (hF i hi').2⟩, by simpa using q2, by simpa using q3, by simpa using q4⟩

set_option maxRecDepth 100000 in
theorem read_branch {fuel : Nat} {cs : List Value} {x : DataW H × List MemPlace} (h : DataW.trod enc Try.prog W 0 spare held fuel 135 cs = some x) : ∃ (bd : BranchD) (nv : Value), cs = [.bool bd.bol, .bool bd.eol, nv] ∧ NodesAt 0 W nv bd.nodes := by
  obtain ⟨xs, n, _, _, hl, hlen, hf⟩ := DataW.trod_struct Try.underlying135 h
  rw [Try.cellsBranch] at hl
  obtain ⟨y0, y1, y2, rfl⟩ := list3 (show xs.length = 3 from hlen)
  obtain ⟨c0, c1, c2, rfl⟩ := list3 hl
  · · have f0 := hf 0 _ rfl
      have f1 := hf 1 _ rfl
      have f2 := hf 2 _ rfl
      simp [Try.cellsBool, Try.cellsNodeS] at f0 f1 f2
      obtain ⟨k, e0, _⟩ := DataW.trod_bool Try.underlying4 f0
      obtain ⟨k2, e1, _⟩ := DataW.trod_bool Try.underlying4 f1
      obtain ⟨ns, hns⟩ := read_nodes f2
      simp only [List.cons.injEq, and_true] at e0 e1
      exact ⟨⟨k, k2, ns⟩, c2, by rw [e0, e1], hns⟩

theorem read_branches {fuel : Nat} {c : Value} {x : DataW H × List MemPlace} (h : DataW.trod enc Try.prog W 0 spare held fuel 22 [c] = some x) : ∃ bs, BranchesAt 0 W c bs := by
  rcases Go.Deep.open_slice Try.underlying22 h with ⟨hc, _⟩ | ⟨a, len, cap, m, n, D, Pl, hc, _, hlc, hcm, hmm, _, hx⟩
  · simp only [List.cons.injEq, and_true] at hc
    exact ⟨[], none, 0, hc, by simp, fun h0 => absurd h0 (Nat.not_lt_zero _)⟩
  · simp only [List.cons.injEq, and_true] at hc
    have hlm : len ≤ m := by rw [hmm]; split <;> omega
    rw [Try.cellsBranch] at hx
    rcases Nat.eq_zero_or_pos len with h0 | h0
    · subst h0
      exact ⟨[], some a, cap, hc, by simp, fun h0 => absurd h0 (Nat.not_lt_zero _)⟩
    · obtain ⟨b, o, C, rfl, hb, hC⟩ := open_rows (W := W) (a := a) (len := len) (sz := 3) (E := fun cs => ∃ q : BranchD × Value, cs = [.bool q.1.bol, .bool q.1.eol, q.2] ∧ NodesAt 0 W q.2 q.1.nodes) (by omega) (fun i hi => by
        obtain ⟨cs', h1, h2⟩ := hx i (by omega)
        obtain ⟨nd, sv, he, hr⟩ := read_branch h2
        exact ⟨cs', h1, (nd, sv), he, hr⟩) h0
      obtain ⟨F, hF⟩ := @Go.Deep.choose_lt (BranchD × Value) ⟨(.zero, .nilIface)⟩ len (fun i q => C i = [.bool q.1.bol, .bool q.1.eol, q.2] ∧ NodesAt 0 W q.2 q.1.nodes) (fun i hi => (hC i hi).1)
      refine ⟨(List.range len).map fun i => (F i).1, some ⟨b, o, none⟩, cap, by rw [hc]; simp, by simp; exact maxLen_num (Nat.le_trans hlc hcm), fun _ => ⟨b, o, rfl, Nat.zero_le _, hb, fun i hi => ?_⟩⟩
      have hi' : i < len := by simpa using hi
      rw [range_map_get (fun i => (F i).1) .zero len i hi']
      have q0 := (hC i hi').2 0 (by omega)
      have q1 := (hC i hi').2 1 (by omega)
      have q2 := (hC i hi').2 2 (by omega)
      rw [(hF i hi').1] at q0 q1 q2
      exact ⟨by simpa using q0, by simpa using q1, ⟨(F i).2, by simpa using q2, (hF i hi').2⟩⟩
end
end Go.Proofs.Ytplhghhfdabccaa
