import Derived.Test.YthgaeaihfbiolaaDoorMsJ
import Derived.Test.YthgaeaihfbiolaaDoorTo
import Derived.Test.YthgaeaihfbiolaaDoorEq
import Derived.Test.YthgaeaihfbiolaaDoorSzOwn
import Derived.Deep.RegionHeld3
import Derived.Deep.DrawnRows
import Derived.ProofKit
import Derived.Deep.Slices
import Derived.Deep.Strs
import Derived.Lib.SmallJoins
namespace Go.Proofs.YthgaeaihfbiolaaDoor
open Go.RowKit

theorem szRanges_small {rs : List (Int × Int)} {l : Int} (h : 0 ≤ szRangesF rs l) (hl : l ≤ 1048576) : rs.length ≤ 1048576 := by
  unfold szRangesF at h; split at h <;> omega
theorem szNodesL_small : ∀ (ns : List NodeD) (l : Int), 0 ≤ l → l ≤ 1048576 → 0 ≤ szNodesL ns l → ∀ j, j < ns.length → (ns.getD j .zero).set.length ≤ 1048576
  | [], _, _, _, _, j, hj => absurd hj (Nat.not_lt_zero _)
  | n :: ns, l, h0, h1, h, j, hj => by
    unfold szNodesL at h
    have hb := szRangesF_le n.set l h0
    by_cases hc : szRangesF n.set l < 0
    · rw [if_pos hc] at h; omega
    · rw [if_neg hc] at h
      cases j with
      | zero => exact szRanges_small (rs := n.set) (show 0 ≤ szRangesF n.set l by omega) h1
      | succ j => exact szNodesL_small ns _ (by omega) (by omega) h j (by simpa using hj)
theorem szNodes_small {ns : List NodeD} {l : Int} (h1 : l ≤ 1048576) (h : 0 ≤ szNodesF ns l) : ns.length ≤ 1048576 ∧ ∀ j, j < ns.length → (ns.getD j .zero).set.length ≤ 1048576 := by
  unfold szNodesF at h
  by_cases hc : l - ns.length < 0
  · rw [if_pos hc] at h; omega
  · rw [if_neg hc] at h
    exact ⟨by omega, szNodesL_small ns _ (by omega) (by omega) h⟩
theorem szBranchesL_small : ∀ (bs : List BranchD) (l : Int), 0 ≤ l → l ≤ 1048576 → 0 ≤ szBranchesL bs l → ∀ i, i < bs.length → (bs.getD i .zero).nodes.length ≤ 1048576 ∧ ∀ j, j < (bs.getD i .zero).nodes.length → ((bs.getD i .zero).nodes.getD j .zero).set.length ≤ 1048576
  | [], _, _, _, _, j, hj => absurd hj (Nat.not_lt_zero _)
  | b :: bs, l, h0, h1, h, i, hi => by
    unfold szBranchesL at h
    have hb := szNodesF_le b.nodes l h0
    by_cases hc : szNodesF b.nodes l < 0
    · rw [if_pos hc] at h; omega
    · rw [if_neg hc] at h
      cases i with
      | zero => exact szNodes_small (ns := b.nodes) h1 (show 0 ≤ szNodesF b.nodes l by omega)
      | succ i => exact szBranchesL_small bs _ (by omega) (by omega) h i (by simpa using hi)
theorem sz_small {bs : List BranchD} (h : 0 ≤ szBranchesF bs 1048576) : Small bs := by
  unfold szBranchesF at h
  by_cases hc : (1048576 : Int) - bs.length < 0
  · rw [if_pos hc] at h; omega
  · rw [if_neg hc] at h
    exact ⟨by omega, szBranchesL_small bs _ (by omega) (by omega) h⟩

attribute [local go_sem ↓] Go.wp_at_zero Go.wp_at_succ

set_option maxRecDepth 100000 in
set_option maxHeartbeats 2000000 in
theorem lawMatch_ok {lo : Nat} (G : Int) (v : Value) (bs : List BranchD) (t : ByteArray) (aa ee : Int) (cl : Bool) (w : World) (hs : BranchesAt lo w v bs) (hBr : Bruijn w) :
    Calls Tryd.prog 3 #[.agg #[v, .int .i64 G], .string t, .int .i64 aa, .int .i64 ee, .bool cl] w fun r w' => r = .returned (.bool true) ∧ Below w.heap.size w w' := by
  have hs0 := hs
  obtain ⟨ao, cap, rfl, hm, hc⟩ := hs
  have hb0 : Below w.heap.size w (w.alloc (.cells #[.slice ao bs.length cap, .int .i64 G] 24)) := (Below.refl _ _).alloc (Nat.le_refl _) _
  have hsz := szBranchesF_le bs 1048576 (by omega)
  by_cases htx : (1048576 : Int) < (t.size : Int)
  · go_enter Tryd.func3, Tryd.ntmps3
    go_wp2
    go_ret
    exact ⟨rfl, hb0⟩
  go_enter Tryd.func3, Tryd.ntmps3
  go_wp2_with fail
  refine (szRule_ok G _ bs 1048576 _ (hs0.below hb0) (by omega) (by omega)).mono ?_
  rintro e w1 ⟨rfl, hb1⟩
  have hbb1 := below_step hb0 hb0.size hb1
  have hz1 : w.heap.size < w1.heap.size := Nat.lt_of_lt_of_le (by simp) hb1.size
  have a0 : w1.cell? ⟨w.heap.size, 0, none⟩ = some (.slice ao bs.length cap) := (hb1.cell (by simp)).trans (by simp)
  have a1 : w1.cell? ⟨w.heap.size, 1, none⟩ = some (.int .i64 G) := (hb1.cell (by simp)).trans (by simp)
  by_cases hneg : szBranchesF bs 1048576 < 0
  · go_wp2
    go_ret
    exact ⟨rfl, hbb1⟩
  have hsm : Small bs := sz_small (by omega)
  go_wp2_with fail
  refine (toRule_ok G _ bs _ (hs0.below hbb1) hsm).mono ?_
  rintro e w2 ⟨bv2, rfl, hx2, hb2⟩
  have hbb2 := below_step hbb1 hbb1.size hb2
  have b0 := (hb2.cell (p := ⟨w.heap.size, 0, none⟩) hz1).trans a0
  have b1 := (hb2.cell (p := ⟨w.heap.size, 1, none⟩) hz1).trans a1
  have hz2 : w.heap.size < w2.heap.size := Nat.lt_of_lt_of_le hz1 hb2.size
  clear a0 a1
  go_wp2_with fail
  refine (specSpan_ok G _ bs t aa ee cl _ hx2 hsm).mono ?_
  rintro e w3 ⟨sb, rfl, hsb, hb3⟩
  have Hsb : Hid _ := hsb
  clear hsb
  have hbb3 := below_step hbb2 hbb2.size hb3
  have d0 := (hb3.cell (p := ⟨w.heap.size, 0, none⟩) hz2).trans b0
  have d1 := (hb3.cell (p := ⟨w.heap.size, 1, none⟩) hz2).trans b1
  have hz3 : w.heap.size < w3.heap.size := Nat.lt_of_lt_of_le hz2 hb3.size
  clear b0 b1
  go_wp2_with fail
  refine (toRule_ok G _ bs _ (hs0.below hbb3) hsm).mono ?_
  rintro e w4 ⟨bv4, rfl, hx4, hb4⟩
  have hbb4 := below_step hbb3 hbb3.size hb4
  have e0 := (hb4.cell (p := ⟨w.heap.size, 0, none⟩) hz3).trans d0
  have e1 := (hb4.cell (p := ⟨w.heap.size, 1, none⟩) hz3).trans d1
  have hz4 : w.heap.size < w4.heap.size := Nat.lt_of_lt_of_le hz3 hb4.size
  clear d0 d1
  obtain ⟨ao4, cap4, rfl, hm4, hc4⟩ := hx4
  have hx4 : BranchesAt w3.heap.size w4 (.slice ao4 bs.length cap4) bs := ⟨_, _, rfl, hm4, hc4⟩
  have hb4a : Below w4.heap.size w4 (w4.alloc (.cells #[.slice ao4 bs.length cap4, .int .i64 G] 29)) := (Below.refl _ _).alloc (Nat.le_refl _) _
  go_wp2_with fail
  have hbb4a := below_step hbb4 hbb4.size hb4a
  refine (implSpan_ok G _ bs t aa ee cl _ (hx4.below hb4a) hsm (hBr.keep (hbb4a.block 0 (bru_pos hBr)))).mono ?_
  rintro e w5 ⟨ib, rfl, hib, hb5⟩
  obtain rfl : ib = sb := by
    have := hib.trans Hsb.out.symm
    cases ib <;> cases sb <;> simp_all
  clear hib
  have hbb5 := below_step hbb4a hbb4a.size hb5
  have hz5 : w4.heap.size < w5.heap.size := Nat.lt_of_lt_of_le (by simp) hb5.size
  have f0 : w5.cell? ⟨w.heap.size, 0, none⟩ = some (.slice ao bs.length cap) := (hb5.cell (by simp; omega)).trans ((World.cell?_of_block (Below.heap_alloc _ _ _ hz4)).trans e0)
  have f1 : w5.cell? ⟨w.heap.size, 1, none⟩ = some (.int .i64 G) := (hb5.cell (by simp; omega)).trans ((World.cell?_of_block (Below.heap_alloc _ _ _ hz4)).trans e1)
  have g0 : w5.cell? ⟨w4.heap.size, 0, none⟩ = some (.slice ao4 bs.length cap4) := (hb5.cell (by simp)).trans (by simp)
  have g1 : w5.cell? ⟨w4.heap.size, 1, none⟩ = some (.int .i64 G) := (hb5.cell (by simp)).trans (by simp)
  have hx5 := (hx4.below hb4a).below hb5
  clear e0 e1
  have hne : (ib != ib) = false := by simp
  have hwv : w.heap.size < w5.heap.size := by omega
  go_wp2
  go_region_held3 (fun w' => w'.cell? ⟨w.heap.size, 0, none⟩ = some (.slice ao bs.length cap) ∧ w'.cell? ⟨w.heap.size, 1, none⟩ = some (.int .i64 G) ∧ w'.cell? ⟨w4.heap.size, 0, none⟩ = some (.slice ao4 bs.length cap4) ∧ w'.cell? ⟨w4.heap.size, 1, none⟩ = some (.int .i64 G)) ((first | exact ⟨f0, f1, g0, g1⟩ | exact ⟨(hb7.cell (by exact hwv6)).trans ((hb6.cell (by exact hwv)).trans f0), (hb7.cell (by exact hwv6)).trans ((hb6.cell (by exact hwv)).trans f1), (hb7.cell (by exact hwx6)).trans ((hb6.cell (by exact hz5)).trans g0), (hb7.cell (by exact hwx6)).trans ((hb6.cell (by exact hz5)).trans g1)⟩ | exact ⟨(hb6.cell (by exact hwv)).trans f0, (hb6.cell (by exact hwv)).trans f1, (hb6.cell (by exact hz5)).trans g0, (hb6.cell (by exact hz5)).trans g1⟩)) ((first | (go_at_call 6; refine (toRule_ok G _ bs _ (hs0.below hbb5.drew) hsm).mono ?_; rintro e w6 ⟨bv6, rfl, hx6, hb6⟩; have hwv6 : w.heap.size < w6.heap.size := Nat.lt_of_lt_of_le hwv hb6.size; have hwx6 : w4.heap.size < w6.heap.size := Nat.lt_of_lt_of_le hz5 hb6.size) | (go_at_call 8; refine (eqRule_ok G _ _ bs _ ((hx5.below (Below.refl _ _).drew).below hb6) hx6).mono ?_; rintro e w7 ⟨rfl, hb7⟩)))
  go_wp2
  go_ret
  exact ⟨rfl, below_step (below_step hbb5.drew hbb5.size hb6) (Nat.le_trans hbb5.size hb6.size) hb7⟩
end Go.Proofs.YthgaeaihfbiolaaDoor
namespace Go.Proofs.YthgaeaihfbiolaaDoor
open Go.RowKit Go.ChangeShapes Go.WideShapes Go.ChangeAt

theorem Tryd.cellsInt : Tryd.prog.cellsOf 3 = 1 := by kernel_rfl
theorem Tryd.cellsBool : Tryd.prog.cellsOf 4 = 1 := by kernel_rfl
theorem Tryd.cellsRange : Tryd.prog.cellsOf 146 = 2 := by kernel_rfl
theorem Tryd.cellsRangeS : Tryd.prog.cellsOf 122 = 1 := by kernel_rfl
theorem Tryd.cellsNode : Tryd.prog.cellsOf 124 = 5 := by kernel_rfl
theorem Tryd.cellsNodeS : Tryd.prog.cellsOf 61 = 1 := by kernel_rfl
theorem Tryd.cellsBranch : Tryd.prog.cellsOf 63 = 3 := by kernel_rfl
theorem Tryd.cellsBranchS : Tryd.prog.cellsOf 22 = 1 := by kernel_rfl
theorem Tryd.cellsRule : Tryd.prog.cellsOf 24 = 2 := by kernel_rfl

section
variable {H : Type} {enc : TypeId × Value → H} {W : World} {spare : Nat → Bool} {held : Bool}

set_option maxRecDepth 100000 in
theorem read_range {fuel : Nat} {cs : List Value} {x : DataW H × List MemPlace} (h : DataW.trod enc Tryd.prog W 0 spare held fuel 146 cs = some x) : ∃ lo hi : Int, cs = [.int .i64 lo, .int .i64 hi] := by
  obtain ⟨y0, y1, n, _, hl, h0, h1⟩ := trod_struct2 Tryd.underlying146 h
  rw [Tryd.cellsRange] at hl
  match cs, hl with
  | [c0, c1], _ =>
    simp [Tryd.cellsInt] at h0 h1
    obtain ⟨a, e0, _, _⟩ := DataW.trod_int Tryd.underlying3 h0
    obtain ⟨b, e1, _, _⟩ := DataW.trod_int Tryd.underlying3 h1
    simp only [List.cons.injEq, and_true] at e0 e1
    exact ⟨a, b, by rw [e0, e1]⟩

theorem read_ranges {fuel : Nat} {c : Value} {x : DataW H × List MemPlace} (h : DataW.trod enc Tryd.prog W 0 spare held fuel 122 [c] = some x) : ∃ rs, RangesAt 0 W c rs := by
  rcases Go.Deep.open_slice Tryd.underlying122 h with ⟨hc, _⟩ | ⟨a, len, cap, m, n, D, Pl, hc, _, hlc, hcm, hmm, _, hx⟩
  · simp only [List.cons.injEq, and_true] at hc
    exact ⟨[], none, 0, hc, by simp, fun h0 => absurd h0 (Nat.not_lt_zero _)⟩
  · simp only [List.cons.injEq, and_true] at hc
    have hlm : len ≤ m := by rw [hmm]; split <;> omega
    rw [Tryd.cellsRange] at hx
    rcases Nat.eq_zero_or_pos len with h0 | h0
    · subst h0
      exact ⟨[], some a, cap, hc, by simp, fun h0 => absurd h0 (Nat.not_lt_zero _)⟩
    · obtain ⟨b, o, C, rfl, hb, hC⟩ := open_rows (W := W) (a := a) (len := len) (sz := 2) (E := fun cs => ∃ r : Int × Int, cs = [.int .i64 r.1, .int .i64 r.2]) (by omega) (fun i hi => by
        obtain ⟨cs', h1, h2⟩ := hx i (by omega)
        obtain ⟨lo, hi', he⟩ := read_range h2
        exact ⟨cs', h1, (lo, hi'), he⟩) h0
      obtain ⟨F, hF⟩ := Go.Deep.choose_lt (α := Int × Int) (p := fun i r => C i = [.int .i64 r.1, .int .i64 r.2]) (fun i hi => (hC i hi).1)
      refine ⟨(List.range len).map F, some ⟨b, o, none⟩, cap, by rw [hc]; simp, by simp; exact maxLen_num (Nat.le_trans hlc hcm), fun _ => ⟨b, o, rfl, Nat.zero_le _, hb, fun i hi => ?_⟩⟩
      have hi' : i < len := by simpa using hi
      rw [range_map_get F (0, 0) len i hi']
      have q0 := (hC i hi').2 0 (by omega)
      have q1 := (hC i hi').2 1 (by omega)
      rw [hF i hi'] at q0 q1
      exact ⟨by simpa using q0, by simpa using q1⟩

set_option maxRecDepth 100000 in
theorem read_node {fuel : Nat} {cs : List Value} {x : DataW H × List MemPlace} (h : DataW.trod enc Tryd.prog W 0 spare held fuel 124 cs = some x) : ∃ (nd : NodeD) (sv : Value), cs = [.int .i64 nd.kind, sv, .int .i64 nd.min, .int .i64 nd.max, .int .i64 nd.group] ∧ RangesAt 0 W sv nd.set := by
  obtain ⟨xs, n, _, _, hl, hlen, hf⟩ := DataW.trod_struct Tryd.underlying124 h
  rw [Tryd.cellsNode] at hl
  obtain ⟨y0, y1, y2, y3, y4, rfl⟩ := list5 (show xs.length = 5 from hlen)
  obtain ⟨c0, c1, c2, c3, c4, rfl⟩ := list5 hl
  · · have f0 := hf 0 _ rfl
      have f1 := hf 1 _ rfl
      have f2 := hf 2 _ rfl
      have f3 := hf 3 _ rfl
      have f4 := hf 4 _ rfl
      simp [Tryd.cellsInt, Tryd.cellsRangeS] at f0 f1 f2 f3 f4
      obtain ⟨k, e0, _, _⟩ := DataW.trod_int Tryd.underlying3 f0
      obtain ⟨rs, hrs⟩ := read_ranges f1
      obtain ⟨mn, e2, _, _⟩ := DataW.trod_int Tryd.underlying3 f2
      obtain ⟨mx, e3, _, _⟩ := DataW.trod_int Tryd.underlying3 f3
      obtain ⟨g, e4, _, _⟩ := DataW.trod_int Tryd.underlying3 f4
      simp only [List.cons.injEq, and_true] at e0 e2 e3 e4
      exact ⟨⟨k, rs, mn, mx, g⟩, c1, by rw [e0, e2, e3, e4], hrs⟩

theorem read_nodes {fuel : Nat} {c : Value} {x : DataW H × List MemPlace} (h : DataW.trod enc Tryd.prog W 0 spare held fuel 61 [c] = some x) : ∃ ns, NodesAt 0 W c ns := by
  rcases Go.Deep.open_slice Tryd.underlying61 h with ⟨hc, _⟩ | ⟨a, len, cap, m, n, D, Pl, hc, _, hlc, hcm, hmm, _, hx⟩
  · simp only [List.cons.injEq, and_true] at hc
    exact ⟨[], none, 0, hc, by simp, fun h0 => absurd h0 (Nat.not_lt_zero _)⟩
  · simp only [List.cons.injEq, and_true] at hc
    have hlm : len ≤ m := by rw [hmm]; split <;> omega
    rw [Tryd.cellsNode] at hx
    rcases Nat.eq_zero_or_pos len with h0 | h0
    · subst h0
      exact ⟨[], some a, cap, hc, by simp, fun h0 => absurd h0 (Nat.not_lt_zero _)⟩
    · obtain ⟨b, o, C, rfl, hb, hC⟩ := open_rows (W := W) (a := a) (len := len) (sz := 5) (E := fun cs => ∃ q : NodeD × Value, cs = [.int .i64 q.1.kind, q.2, .int .i64 q.1.min, .int .i64 q.1.max, .int .i64 q.1.group] ∧ RangesAt 0 W q.2 q.1.set) (by omega) (fun i hi => by
        obtain ⟨cs', h1, h2⟩ := hx i (by omega)
        obtain ⟨nd, sv, he, hr⟩ := read_node h2
        exact ⟨cs', h1, (nd, sv), he, hr⟩) h0
      obtain ⟨F, hF⟩ := @Go.Deep.choose_lt (NodeD × Value) ⟨(.zero, .nilIface)⟩ len (fun i q => C i = [.int .i64 q.1.kind, q.2, .int .i64 q.1.min, .int .i64 q.1.max, .int .i64 q.1.group] ∧ RangesAt 0 W q.2 q.1.set) (fun i hi => (hC i hi).1)
      refine ⟨(List.range len).map fun i => (F i).1, some ⟨b, o, none⟩, cap, by rw [hc]; simp, by simp; exact maxLen_num (Nat.le_trans hlc hcm), fun _ => ⟨b, o, rfl, Nat.zero_le _, hb, fun i hi => ?_⟩⟩
      have hi' : i < len := by simpa using hi
      rw [range_map_get (fun i => (F i).1) .zero len i hi']
      have q0 := (hC i hi').2 0 (by omega)
      have q1 := (hC i hi').2 1 (by omega)
      have q2 := (hC i hi').2 2 (by omega)
      have q3 := (hC i hi').2 3 (by omega)
      have q4 := (hC i hi').2 4 (by omega)
      rw [(hF i hi').1] at q0 q1 q2 q3 q4
      exact ⟨by simpa using q0, ⟨(F i).2, by simpa using q1, (hF i hi').2⟩, by simpa using q2, by simpa using q3, by simpa using q4⟩

set_option maxRecDepth 100000 in
theorem read_branch {fuel : Nat} {cs : List Value} {x : DataW H × List MemPlace} (h : DataW.trod enc Tryd.prog W 0 spare held fuel 63 cs = some x) : ∃ (bd : BranchD) (nv : Value), cs = [.bool bd.bol, .bool bd.eol, nv] ∧ NodesAt 0 W nv bd.nodes := by
  obtain ⟨xs, n, _, _, hl, hlen, hf⟩ := DataW.trod_struct Tryd.underlying63 h
  rw [Tryd.cellsBranch] at hl
  obtain ⟨y0, y1, y2, rfl⟩ := list3 (show xs.length = 3 from hlen)
  obtain ⟨c0, c1, c2, rfl⟩ := list3 hl
  · · have f0 := hf 0 _ rfl
      have f1 := hf 1 _ rfl
      have f2 := hf 2 _ rfl
      simp [Tryd.cellsBool, Tryd.cellsNodeS] at f0 f1 f2
      obtain ⟨k, e0, _⟩ := DataW.trod_bool Tryd.underlying4 f0
      obtain ⟨k2, e1, _⟩ := DataW.trod_bool Tryd.underlying4 f1
      obtain ⟨ns, hns⟩ := read_nodes f2
      simp only [List.cons.injEq, and_true] at e0 e1
      exact ⟨⟨k, k2, ns⟩, c2, by rw [e0, e1], hns⟩

theorem read_branches {fuel : Nat} {c : Value} {x : DataW H × List MemPlace} (h : DataW.trod enc Tryd.prog W 0 spare held fuel 22 [c] = some x) : ∃ bs, BranchesAt 0 W c bs := by
  rcases Go.Deep.open_slice Tryd.underlying22 h with ⟨hc, _⟩ | ⟨a, len, cap, m, n, D, Pl, hc, _, hlc, hcm, hmm, _, hx⟩
  · simp only [List.cons.injEq, and_true] at hc
    exact ⟨[], none, 0, hc, by simp, fun h0 => absurd h0 (Nat.not_lt_zero _)⟩
  · simp only [List.cons.injEq, and_true] at hc
    have hlm : len ≤ m := by rw [hmm]; split <;> omega
    rw [Tryd.cellsBranch] at hx
    rcases Nat.eq_zero_or_pos len with h0 | h0
    · subst h0
      exact ⟨[], some a, cap, hc, by simp, fun h0 => absurd h0 (Nat.not_lt_zero _)⟩
    · obtain ⟨b, o, C, rfl, hb, hC⟩ := open_rows (W := W) (a := a) (len := len) (sz := 3) (E := fun cs => ∃ q : BranchD × Value, cs = [.bool q.1.bol, .bool q.1.eol, q.2] ∧ NodesAt 0 W q.2 q.1.nodes) (by omega) (fun i hi => by
        obtain ⟨cs', h1, h2⟩ := hx i (by omega)
        obtain ⟨nd, sv, he, hr⟩ := read_branch h2
        exact ⟨cs', h1, (nd, sv), he, hr⟩) h0
      obtain ⟨F, hF⟩ := @Go.Deep.choose_lt (BranchD × Value) ⟨(.zero, .nilIface)⟩ len (fun i q => C i = [.bool q.1.bol, .bool q.1.eol, q.2] ∧ NodesAt 0 W q.2 q.1.nodes) (fun i hi => (hC i hi).1)
      refine ⟨(List.range len).map fun i => (F i).1, some ⟨b, o, none⟩, cap, by rw [hc]; simp, by simp; exact maxLen_num (Nat.le_trans hlc hcm), fun _ => ⟨b, o, rfl, Nat.zero_le _, hb, fun i hi => ?_⟩⟩
      have hi' : i < len := by simpa using hi
      rw [range_map_get (fun i => (F i).1) .zero len i hi']
      have q0 := (hC i hi').2 0 (by omega)
      have q1 := (hC i hi').2 1 (by omega)
      have q2 := (hC i hi').2 2 (by omega)
      rw [(hF i hi').1] at q0 q1 q2
      exact ⟨by simpa using q0, by simpa using q1, ⟨(F i).2, by simpa using q2, (hF i hi').2⟩⟩
end
end Go.Proofs.YthgaeaihfbiolaaDoor
