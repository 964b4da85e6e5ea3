import Derived.Test.YthgaeaihfbiolaaDoorGen
namespace Go.Proofs.YthgaeaihfbiolaaDoor
open Go.RowKit

/- THE DATA: a rule as lists and numbers; and what it is for a value to hold them in a world. -/
structure NodeD where
  kind : Int
  set : List (Int × Int)
  min : Int
  max : Int
  group : Int
structure BranchD where
  bol : Bool
  eol : Bool
  nodes : List NodeD
structure RuleD where
  branches : List BranchD
  groups : Int
def NodeD.zero : NodeD := ⟨0, [], 0, 0, 0⟩
def BranchD.zero : BranchD := ⟨false, false, []⟩

/- The blocks from lo on that were there are as they were. -/
/- The cells of a slice of ranges (two cells each), of nodes (five), of branches (three), and the slices themselves: in blocks from lo on. -/
def RangeCells (lo : Nat) (w : World) (ao : Option Addr) (rs : List (Int × Int)) : Prop :=
  0 < rs.length → ∃ b o, ao = some ⟨b, o, none⟩ ∧ lo ≤ b ∧ b < w.heap.size ∧
    ∀ i, i < rs.length → w.cell? ⟨b, o + i * 2, none⟩ = some (.int .i64 (rs.getD i (0, 0)).1) ∧ w.cell? ⟨b, o + i * 2 + 1, none⟩ = some (.int .i64 (rs.getD i (0, 0)).2)
def RangesAt (lo : Nat) (w : World) (v : Value) (rs : List (Int × Int)) : Prop := ∃ ao cap, v = .slice ao rs.length cap ∧ rs.length ≤ 9223372036854775807 ∧ RangeCells lo w ao rs

def NodeCells (lo : Nat) (w : World) (ao : Option Addr) (ns : List NodeD) : Prop :=
  0 < ns.length → ∃ b o, ao = some ⟨b, o, none⟩ ∧ lo ≤ b ∧ b < w.heap.size ∧
    ∀ i, i < ns.length → w.cell? ⟨b, o + i * 5, none⟩ = some (.int .i64 (ns.getD i .zero).kind) ∧
      (∃ sv, w.cell? ⟨b, o + i * 5 + 1, none⟩ = some sv ∧ RangesAt lo w sv (ns.getD i .zero).set) ∧
      w.cell? ⟨b, o + i * 5 + 2, none⟩ = some (.int .i64 (ns.getD i .zero).min) ∧ w.cell? ⟨b, o + i * 5 + 3, none⟩ = some (.int .i64 (ns.getD i .zero).max) ∧
      w.cell? ⟨b, o + i * 5 + 4, none⟩ = some (.int .i64 (ns.getD i .zero).group)
def NodesAt (lo : Nat) (w : World) (v : Value) (ns : List NodeD) : Prop := ∃ ao cap, v = .slice ao ns.length cap ∧ ns.length ≤ 9223372036854775807 ∧ NodeCells lo w ao ns

def BranchCells (lo : Nat) (w : World) (ao : Option Addr) (bs : List BranchD) : Prop :=
  0 < bs.length → ∃ b o, ao = some ⟨b, o, none⟩ ∧ lo ≤ b ∧ b < w.heap.size ∧
    ∀ i, i < bs.length → w.cell? ⟨b, o + i * 3, none⟩ = some (.bool (bs.getD i .zero).bol) ∧ w.cell? ⟨b, o + i * 3 + 1, none⟩ = some (.bool (bs.getD i .zero).eol) ∧
      (∃ nv, w.cell? ⟨b, o + i * 3 + 2, none⟩ = some nv ∧ NodesAt lo w nv (bs.getD i .zero).nodes)
def BranchesAt (lo : Nat) (w : World) (v : Value) (bs : List BranchD) : Prop := ∃ ao cap, v = .slice ao bs.length cap ∧ bs.length ≤ 9223372036854775807 ∧ BranchCells lo w ao bs

theorem RangesAt.same {lo : Nat} {w w' : World} {v : Value} {rs : List (Int × Int)} (h : RangesAt lo w v rs) (hb : Same lo w w') : RangesAt lo w' v rs := by
  obtain ⟨ao, cap, rfl, hm, h⟩ := h
  refine ⟨ao, cap, rfl, hm, fun h0 => ?_⟩
  obtain ⟨b, o, rfl, hge, hlt, hc⟩ := h h0
  refine ⟨b, o, rfl, hge, Nat.lt_of_lt_of_le hlt hb.size, fun i hi => ?_⟩
  obtain ⟨c0, c1⟩ := hc i hi
  exact ⟨(hb.cell (by exact hge) (by exact hlt)).trans c0, (hb.cell (by exact hge) (by exact hlt)).trans c1⟩
theorem NodesAt.same {lo : Nat} {w w' : World} {v : Value} {ns : List NodeD} (h : NodesAt lo w v ns) (hb : Same lo w w') : NodesAt lo w' v ns := by
  obtain ⟨ao, cap, rfl, hm, h⟩ := h
  refine ⟨ao, cap, rfl, hm, fun h0 => ?_⟩
  obtain ⟨b, o, rfl, hge, hlt, hc⟩ := h h0
  refine ⟨b, o, rfl, hge, Nat.lt_of_lt_of_le hlt hb.size, fun i hi => ?_⟩
  obtain ⟨c0, ⟨sv, c1, hs⟩, c2, c3, c4⟩ := hc i hi
  have hcell : ∀ off, w'.cell? ⟨b, off, none⟩ = w.cell? ⟨b, off, none⟩ := fun off => hb.cell (by exact hge) (by exact hlt)
  exact ⟨(hcell _).trans c0, ⟨sv, (hcell _).trans c1, hs.same hb⟩, (hcell _).trans c2, (hcell _).trans c3, (hcell _).trans c4⟩
theorem BranchesAt.same {lo : Nat} {w w' : World} {v : Value} {bs : List BranchD} (h : BranchesAt lo w v bs) (hb : Same lo w w') : BranchesAt lo w' v bs := by
  obtain ⟨ao, cap, rfl, hm, h⟩ := h
  refine ⟨ao, cap, rfl, hm, fun h0 => ?_⟩
  obtain ⟨b, o, rfl, hge, hlt, hc⟩ := h h0
  refine ⟨b, o, rfl, hge, Nat.lt_of_lt_of_le hlt hb.size, fun i hi => ?_⟩
  obtain ⟨c0, c1, ⟨nv, c2, hn⟩⟩ := hc i hi
  have hcell : ∀ off, w'.cell? ⟨b, off, none⟩ = w.cell? ⟨b, off, none⟩ := fun off => hb.cell (by exact hge) (by exact hlt)
  exact ⟨(hcell _).trans c0, (hcell _).trans c1, ⟨nv, (hcell _).trans c2, hn.same hb⟩⟩
theorem RangesAt.below {lo : Nat} {w w' : World} {v : Value} {rs : List (Int × Int)} (h : RangesAt lo w v rs) (hb : Below w.heap.size w w') : RangesAt lo w' v rs := h.same (.of_below hb)
theorem NodesAt.below {lo : Nat} {w w' : World} {v : Value} {ns : List NodeD} (h : NodesAt lo w v ns) (hb : Below w.heap.size w w') : NodesAt lo w' v ns := h.same (.of_below hb)
theorem BranchesAt.below {lo : Nat} {w w' : World} {v : Value} {bs : List BranchD} (h : BranchesAt lo w v bs) (hb : Below w.heap.size w w') : BranchesAt lo w' v bs := h.same (.of_below hb)

theorem RangesAt.mono {lo lo' : Nat} {w : World} {v : Value} {rs : List (Int × Int)} (h : RangesAt lo w v rs) (hl : lo' ≤ lo) : RangesAt lo' w v rs := by
  obtain ⟨ao, cap, rfl, hm, h⟩ := h
  refine ⟨ao, cap, rfl, hm, fun h0 => ?_⟩
  obtain ⟨b, o, rfl, hge, r⟩ := h h0
  exact ⟨b, o, rfl, Nat.le_trans hl hge, r⟩
theorem NodesAt.mono {lo lo' : Nat} {w : World} {v : Value} {rs : List NodeD} (h : NodesAt lo w v rs) (hl : lo' ≤ lo) : NodesAt lo' w v rs := by
  obtain ⟨ao, cap, rfl, hm, h⟩ := h
  refine ⟨ao, cap, rfl, hm, fun h0 => ?_⟩
  obtain ⟨b, o, rfl, hge, hlt, hc⟩ := h h0
  refine ⟨b, o, rfl, Nat.le_trans hl hge, hlt, fun i hi => ?_⟩
  obtain ⟨c0, ⟨sv, c1, hs⟩, r⟩ := hc i hi
  exact ⟨c0, ⟨sv, c1, hs.mono hl⟩, r⟩

/- One element, in a later world. -/
theorem RangeCells.elem {lo : Nat} {w wr : World} {ao : Option Addr} {rs : List (Int × Int)} (h : RangeCells lo w ao rs) (hb : Below w.heap.size w wr) {k : Nat} (hk : k < rs.length) :
    ∃ (b o : Nat) (lo hi : Int), ao = some ⟨b, o, none⟩ ∧ Hid (rs.getD k (0, 0) = (lo, hi)) ∧ b < w.heap.size ∧ wr.cell? ⟨b, o + k * 2, none⟩ = some (.int .i64 lo) ∧ wr.cell? ⟨b, o + k * 2 + 1, none⟩ = some (.int .i64 hi) := by
  obtain ⟨b, o, rfl, _, hlt, hc⟩ := h (by omega)
  obtain ⟨c0, c1⟩ := hc k hk
  exact ⟨b, o, _, _, rfl, rfl, hlt, (hb.cell (by exact hlt)).trans c0, (hb.cell (by exact hlt)).trans c1⟩
theorem NodeCells.elem {lo : Nat} {w wr : World} {ao : Option Addr} {ns : List NodeD} (h : NodeCells lo w ao ns) (hb : Below w.heap.size w wr) {k : Nat} (hk : k < ns.length) :
    ∃ (b o : Nat) (sv : Value) (nd : NodeD), ao = some ⟨b, o, none⟩ ∧ Hid (ns.getD k .zero = nd) ∧ b < w.heap.size ∧ wr.cell? ⟨b, o + k * 5, none⟩ = some (.int .i64 nd.kind) ∧ wr.cell? ⟨b, o + k * 5 + 1, none⟩ = some sv ∧
      wr.cell? ⟨b, o + k * 5 + 2, none⟩ = some (.int .i64 nd.min) ∧ wr.cell? ⟨b, o + k * 5 + 3, none⟩ = some (.int .i64 nd.max) ∧ wr.cell? ⟨b, o + k * 5 + 4, none⟩ = some (.int .i64 nd.group) ∧ RangesAt lo wr sv nd.set := by
  obtain ⟨b, o, rfl, _, hlt, hc⟩ := h (by omega)
  obtain ⟨c0, ⟨sv, c1, hs⟩, c2, c3, c4⟩ := hc k hk
  exact ⟨b, o, sv, _, rfl, rfl, hlt, (hb.cell (by exact hlt)).trans c0, (hb.cell (by exact hlt)).trans c1, (hb.cell (by exact hlt)).trans c2, (hb.cell (by exact hlt)).trans c3, (hb.cell (by exact hlt)).trans c4, hs.below hb⟩
theorem BranchCells.elem {lo : Nat} {w wr : World} {ao : Option Addr} {bs : List BranchD} (h : BranchCells lo w ao bs) (hb : Below w.heap.size w wr) {k : Nat} (hk : k < bs.length) :
    ∃ (b o : Nat) (nv : Value) (bd : BranchD), ao = some ⟨b, o, none⟩ ∧ Hid (bs.getD k .zero = bd) ∧ b < w.heap.size ∧ wr.cell? ⟨b, o + k * 3, none⟩ = some (.bool bd.bol) ∧ wr.cell? ⟨b, o + k * 3 + 1, none⟩ = some (.bool bd.eol) ∧
      wr.cell? ⟨b, o + k * 3 + 2, none⟩ = some nv ∧ NodesAt lo wr nv bd.nodes := by
  obtain ⟨b, o, rfl, _, hlt, hc⟩ := h (by omega)
  obtain ⟨c0, c1, ⟨nv, c2, hn⟩⟩ := hc k hk
  exact ⟨b, o, nv, _, rfl, rfl, hlt, (hb.cell (by exact hlt)).trans c0, (hb.cell (by exact hlt)).trans c1, (hb.cell (by exact hlt)).trans c2, hn.below hb⟩

/- THE SIZES, as the laws count them. -/
def szRangesF (rs : List (Int × Int)) (left : Int) : Int := if left - rs.length < 0 then -1 else left - rs.length
def szNodesL : List NodeD → Int → Int
  | [], l => l
  | n :: ns, l => if szRangesF n.set l < 0 then -1 else szNodesL ns (szRangesF n.set l)
def szNodesF (ns : List NodeD) (left : Int) : Int := if left - ns.length < 0 then -1 else szNodesL ns (left - ns.length)
def szBranchesL : List BranchD → Int → Int
  | [], l => l
  | b :: bs, l => if szNodesF b.nodes l < 0 then -1 else szBranchesL bs (szNodesF b.nodes l)
def szBranchesF (bs : List BranchD) (left : Int) : Int := if left - bs.length < 0 then -1 else szBranchesL bs (left - bs.length)

theorem szRangesF_le (rs : List (Int × Int)) (l : Int) (h : 0 ≤ l) : -1 ≤ szRangesF rs l ∧ szRangesF rs l ≤ l := by unfold szRangesF; split <;> omega
theorem szNodesL_le (ns : List NodeD) : ∀ l : Int, 0 ≤ l → -1 ≤ szNodesL ns l ∧ szNodesL ns l ≤ l := by
  induction ns with
  | nil => intro l h; simp [szNodesL]; omega
  | cons n ns ih =>
    intro l h
    have := szRangesF_le n.set l h
    unfold szNodesL
    split
    · omega
    · have := ih (szRangesF n.set l) (by omega); omega
theorem szNodesF_le (ns : List NodeD) (l : Int) (h : 0 ≤ l) : -1 ≤ szNodesF ns l ∧ szNodesF ns l ≤ l := by
  unfold szNodesF; split
  · omega
  · have := szNodesL_le ns (l - ns.length) (by omega); omega

theorem szBranchesL_le (ns : List BranchD) : ∀ l : Int, 0 ≤ l → -1 ≤ szBranchesL ns l ∧ szBranchesL ns l ≤ l := by
  induction ns with
  | nil => intro l h; simp [szBranchesL]; omega
  | cons n ns ih =>
    intro l h
    have := szNodesF_le n.nodes l h
    unfold szBranchesL
    split
    · omega
    · have := ih (szNodesF n.nodes l) (by omega); omega
theorem szBranchesF_le (ns : List BranchD) (l : Int) (h : 0 ≤ l) : -1 ≤ szBranchesF ns l ∧ szBranchesF ns l ≤ l := by
  unfold szBranchesF; split
  · omega
  · have := szBranchesL_le ns (l - ns.length) (by omega); omega

theorem szNodesL_drop (ns : List NodeD) (i : Nat) (hi : i < ns.length) (l : Int) :
    szNodesL (ns.drop i) l = if szRangesF (ns.getD i .zero).set l < 0 then -1 else szNodesL (ns.drop (i + 1)) (szRangesF (ns.getD i .zero).set l) := by
  rw [List.drop_eq_getElem_cons hi]
  simp [szNodesL, List.getD, hi]
theorem szBranchesL_drop (ns : List BranchD) (i : Nat) (hi : i < ns.length) (l : Int) :
    szBranchesL (ns.drop i) l = if szNodesF (ns.getD i .zero).nodes l < 0 then -1 else szBranchesL (ns.drop (i + 1)) (szNodesF (ns.getD i .zero).nodes l) := by
  rw [List.drop_eq_getElem_cons hi]
  simp [szBranchesL, List.getD, hi]

end Go.Proofs.YthgaeaihfbiolaaDoor
