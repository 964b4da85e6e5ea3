import Derived.Test.YtgbdlgogccgciaaGreatDoorGenDatPeG
import Derived.Deep.RegionHeld3
import Derived.Deep.DrawnRows
import Derived.Test.YtgbdlgogccgciaaGreatDoorTxBBtwRowPeAPeB
import Derived.Deep.AppendLies
namespace Go.Proofs.YtgbdlgogccgciaaGreatDoor
open Go.RowKit

end Go.Proofs.YtgbdlgogccgciaaGreatDoor
namespace Go.Proofs.YtgbdlgogccgciaaGreatDoor
open Go.RowKit

theorem Tryz.infoNode : (Tryz.prog.info? 67).map (fun i => (i.zero, i.size, i.bytes)) = some (some (.agg #[.int .i64 0, .slice none 0 0, .int .i64 0, .int .i64 0, .int .i64 0]), 5, 56) := by kernel_rfl
theorem Tryz.infoBranch : (Tryz.prog.info? 43).map (fun i => (i.zero, i.size, i.bytes)) = some (some (.agg #[.bool false, .bool false, .slice none 0 0]), 3, 32) := by kernel_rfl
theorem Tryz.infoRange : (Tryz.prog.info? 99).map (fun i => (i.zero, i.size, i.bytes)) = some (some (.agg #[.int .i64 0, .int .i64 0]), 2, 16) := by kernel_rfl

end Go.Proofs.YtgbdlgogccgciaaGreatDoor
namespace Go.Proofs.YtgbdlgogccgciaaGreatDoor
open Go.RowKit

theorem RangesAt.setCell {lo : Nat} {w : World} {v : Value} {rs : List (Int × Int)} (h : RangesAt lo w v rs) {a : Addr} (ha : a.block < lo) (u : Value) : RangesAt lo (w.setCell a u) v rs := h.same (Same.setCell w ha u)
theorem NodesAt.setCell {lo : Nat} {w : World} {v : Value} {rs : List NodeD} (h : NodesAt lo w v rs) {a : Addr} (ha : a.block < lo) (u : Value) : NodesAt lo (w.setCell a u) v rs := h.same (Same.setCell w ha u)
theorem BranchesAt.setCell {lo : Nat} {w : World} {v : Value} {rs : List BranchD} (h : BranchesAt lo w v rs) {a : Addr} (ha : a.block < lo) (u : Value) : BranchesAt lo (w.setCell a u) v rs := h.same (Same.setCell w ha u)
theorem BranchesAt.mono {lo lo' : Nat} {w : World} {v : Value} {rs : List BranchD} (h : BranchesAt lo w v rs) (hl : lo' ≤ lo) : BranchesAt lo' w v rs := by
  obtain ⟨ao, cap, rfl, hm, h⟩ := h
  refine ⟨ao, cap, rfl, hm, fun h0 => ?_⟩
  obtain ⟨b, o, rfl, hge, hlt, hc⟩ := h h0
  refine ⟨b, o, rfl, Nat.le_trans hl hge, hlt, fun i hi => ?_⟩
  obtain ⟨c0, c1, ⟨sv, c2, hs⟩⟩ := hc i hi
  exact ⟨c0, c1, ⟨sv, c2, hs.mono hl⟩⟩

def nodeRow (ns : List NodeD) (S : Nat → Value) (j : Nat) : List Value := [.int .i64 (ns.getD j .zero).kind, S j, .int .i64 (ns.getD j .zero).min, .int .i64 (ns.getD j .zero).max, .int .i64 (ns.getD j .zero).group]
def branchRow (bs : List BranchD) (S : Nat → Value) (j : Nat) : List Value := [.bool (bs.getD j .zero).bol, .bool (bs.getD j .zero).eol, S j]

/-- What is small enough to be copied. -/
def Small (bs : List BranchD) : Prop := bs.length ≤ 1048576 ∧ ∀ i, i < bs.length → (bs.getD i .zero).nodes.length ≤ 1048576 ∧ ∀ j, j < (bs.getD i .zero).nodes.length → ((bs.getD i .zero).nodes.getD j .zero).set.length ≤ 1048576

end Go.Proofs.YtgbdlgogccgciaaGreatDoor
namespace Go.Proofs.YtgbdlgogccgciaaGreatDoor
open Go.RowKit
attribute [local go_sem ↓] Go.wp_at_zero Go.wp_at_succ

set_option maxHeartbeats 400000 in
theorem eqRange_ok (lo hi : Int) (w : World) :
    Calls Tryz.prog 98 #[.agg #[.int .i64 lo, .int .i64 hi], .agg #[.int .i64 lo, .int .i64 hi]] w fun e w' => e = .returned (.bool true) ∧ Below w.heap.size w w' := by
  go_enter Tryz.func98, Tryz.ntmps98
  go_wp2
  go_ret
  exact ⟨rfl, ((Below.refl _ _).alloc (Nat.le_refl _) _).alloc (by simp) _⟩

set_option maxRecDepth 100000 in
set_option maxHeartbeats 400000 in
theorem eqRangeS_ok {l1 l2 : Nat} (v v2 : Value) (rs : List (Int × Int)) (w : World) (hs : RangesAt l1 w v rs) (hs2 : RangesAt l2 w v2 rs) :
    Calls Tryz.prog 92 #[v, v2] w fun e w' => e = .returned (.bool true) ∧ Below w.heap.size w w' := by
  obtain ⟨ao, cap, rfl, hm, hc⟩ := hs
  obtain ⟨ao2, cap2, rfl, _, hc2⟩ := hs2
  go_enter Tryz.func92, Tryz.ntmps92
  go_wp2
  go_loopw [5] (fun i wr => ∃ k : Nat, k ≤ rs.length ∧ i = .int .i64 k ∧ Below w.heap.size w wr)
    (fun i _ => rs.length - (intOf i).toNat)
  case atStart => exact ⟨0, Nat.zero_le _, rfl, Below.refl _ _⟩
  case round =>
    obtain ⟨k, hk, rfl, hb⟩ := hrel
    by_cases hlt : k < rs.length
    · obtain ⟨b, o, lo, hi, rfl, Hn, hbl, c0, c1⟩ := hc.elem hb hlt
      obtain ⟨b2, o2, lo2, hi2, rfl, Hn2, hbl2, d0, d1⟩ := hc2.elem hb hlt
      have hee := Hn.out.symm.trans Hn2.out
      simp only [Prod.mk.injEq] at hee
      obtain ⟨rfl, rfl⟩ := hee
      have hbr : b < wr.heap.size := Nat.lt_of_lt_of_le hbl hb.size
      have hbr2 : b2 < wr.heap.size := Nat.lt_of_lt_of_le hbl2 hb.size
      have hi0 : (0 : Int) ≤ (k : Int) := by omega
      have hi1 : (k : Int) < (rs.length : Int) := by omega
      go_wp2
      go_region_held3 (fun w' => w'.cell? ⟨b, o + k * 2, none⟩ = some (.int .i64 lo) ∧ w'.cell? ⟨b, o + k * 2 + 1, none⟩ = some (.int .i64 hi) ∧ w'.cell? ⟨b2, o2 + k * 2, none⟩ = some (.int .i64 lo) ∧ w'.cell? ⟨b2, o2 + k * 2 + 1, none⟩ = some (.int .i64 hi)) ((first | go_keep | exact ⟨(hcc _ _ hbr).trans c0, (hcc _ _ hbr).trans c1, (hcc _ _ hbr2).trans d0, (hcc _ _ hbr2).trans d1⟩)) ((go_at_call 98; refine (eqRange_ok _ _ _).mono ?_; rintro e w2 ⟨rfl, hb2⟩; obtain ⟨hcc, _⟩ := bcell hb2))
      go_wp2
      go_roundw
      case rel => exact ⟨k + 1, by omega, by go_num, below_step hb.drew hb.size hb2⟩
      case measure => simp [intOf]; omega
    · go_wp2
      go_ret
      exact ⟨rfl, hb⟩

set_option maxRecDepth 100000 in
set_option maxHeartbeats 400000 in
theorem eqNode_ok {l1 l2 : Nat} (k mn mx g : Int) (v v2 : Value) (rs : List (Int × Int)) (w : World) (hs : RangesAt l1 w v rs) (hs2 : RangesAt l2 w v2 rs) :
    Calls Tryz.prog 80 #[.agg #[.int .i64 k, v, .int .i64 mn, .int .i64 mx, .int .i64 g], .agg #[.int .i64 k, v2, .int .i64 mn, .int .i64 mx, .int .i64 g]] w fun e w' => e = .returned (.bool true) ∧ Below w.heap.size w w' := by
  go_enter Tryz.func80, Tryz.ntmps80
  go_wp2_with fail
  refine (eqRangeS_ok (l1 := l1) (l2 := l2) _ _ rs _ (hs.below ?_) (hs2.below ?_)).mono ?_
  · exact ((Below.refl _ _).alloc (Nat.le_refl _) _).alloc (by simp) _
  · exact ((Below.refl _ _).alloc (Nat.le_refl _) _).alloc (by simp) _
  rintro e w2 ⟨rfl, hb⟩
  obtain ⟨hcc, hff⟩ := bcell hb
  have hbb := ((((Below.refl w.heap.size w).alloc (Nat.le_refl _) _).alloc (by simp) _).trans (hb.mono (by simp; omega)))
  clear hb
  go_wp2
  go_ret
  exact ⟨rfl, hbb⟩

set_option maxRecDepth 100000 in
set_option maxHeartbeats 400000 in
theorem eqNodeS_ok {l1 l2 : Nat} (v v2 : Value) (rs : List NodeD) (w : World) (hs : NodesAt l1 w v rs) (hs2 : NodesAt l2 w v2 rs) :
    Calls Tryz.prog 60 #[v, v2] w fun e w' => e = .returned (.bool true) ∧ Below w.heap.size w w' := by
  obtain ⟨ao, cap, rfl, hm, hc⟩ := hs
  obtain ⟨ao2, cap2, rfl, _, hc2⟩ := hs2
  go_enter Tryz.func60, Tryz.ntmps60
  go_wp2
  go_loopw [5] (fun i wr => ∃ k : Nat, k ≤ rs.length ∧ i = .int .i64 k ∧ Below w.heap.size w wr)
    (fun i _ => rs.length - (intOf i).toNat)
  case atStart => exact ⟨0, Nat.zero_le _, rfl, Below.refl _ _⟩
  case round =>
    obtain ⟨k, hk, rfl, hb⟩ := hrel
    by_cases hlt : k < rs.length
    · obtain ⟨b, o, sv, nd, rfl, Hn, hbl, c0, c1, c2, c3, c4, hsv⟩ := hc.elem hb hlt
      obtain ⟨b2, o2, sv2, nd2, rfl, Hn2, hbl2, d0, d1, d2, d3, d4, hsv2⟩ := hc2.elem hb hlt
      have hee : nd = nd2 := Hn.out.symm.trans Hn2.out
      subst hee
      have hbr : b < wr.heap.size := Nat.lt_of_lt_of_le hbl hb.size
      have hbr2 : b2 < wr.heap.size := Nat.lt_of_lt_of_le hbl2 hb.size
      have hi0 : (0 : Int) ≤ (k : Int) := by omega
      have hi1 : (k : Int) < (rs.length : Int) := by omega
      have hq1 : RangesAt l1 wr.drew sv nd.set := hsv
      have hq2 : RangesAt l2 wr.drew sv2 nd.set := hsv2
      go_wp2
      go_region_held3 (fun w' => w'.cell? ⟨b, o + k * 5, none⟩ = some (.int .i64 nd.kind) ∧ w'.cell? ⟨b, o + k * 5 + 1, none⟩ = some sv ∧ w'.cell? ⟨b, o + k * 5 + 2, none⟩ = some (.int .i64 nd.min) ∧ w'.cell? ⟨b, o + k * 5 + 3, none⟩ = some (.int .i64 nd.max) ∧ w'.cell? ⟨b, o + k * 5 + 4, none⟩ = some (.int .i64 nd.group) ∧ w'.cell? ⟨b2, o2 + k * 5, none⟩ = some (.int .i64 nd.kind) ∧ w'.cell? ⟨b2, o2 + k * 5 + 1, none⟩ = some sv2 ∧ w'.cell? ⟨b2, o2 + k * 5 + 2, none⟩ = some (.int .i64 nd.min) ∧ w'.cell? ⟨b2, o2 + k * 5 + 3, none⟩ = some (.int .i64 nd.max) ∧ w'.cell? ⟨b2, o2 + k * 5 + 4, none⟩ = some (.int .i64 nd.group)) ((first | go_keep | exact ⟨(hcc _ _ hbr).trans c0, (hcc _ _ hbr).trans c1, (hcc _ _ hbr).trans c2, (hcc _ _ hbr).trans c3, (hcc _ _ hbr).trans c4, (hcc _ _ hbr2).trans d0, (hcc _ _ hbr2).trans d1, (hcc _ _ hbr2).trans d2, (hcc _ _ hbr2).trans d3, (hcc _ _ hbr2).trans d4⟩)) ((go_at_call 80; refine (eqNode_ok _ _ _ _ _ _ _ _ hq1 hq2).mono ?_; rintro e w2 ⟨rfl, hb2⟩; obtain ⟨hcc, _⟩ := bcell hb2))
      go_wp2
      go_roundw
      case rel => exact ⟨k + 1, by omega, by go_num, below_step hb.drew hb.size hb2⟩
      case measure => simp [intOf]; omega
    · go_wp2
      go_ret
      exact ⟨rfl, hb⟩

set_option maxRecDepth 100000 in
set_option maxHeartbeats 400000 in
theorem eqBranch_ok {l1 l2 : Nat} (bol eol : Bool) (v v2 : Value) (ns : List NodeD) (w : World) (hs : NodesAt l1 w v ns) (hs2 : NodesAt l2 w v2 ns) :
    Calls Tryz.prog 39 #[.agg #[.bool bol, .bool eol, v], .agg #[.bool bol, .bool eol, v2]] w fun e w' => e = .returned (.bool true) ∧ Below w.heap.size w w' := by
  go_enter Tryz.func39, Tryz.ntmps39
  go_wp2_with fail
  refine (eqNodeS_ok (l1 := l1) (l2 := l2) _ _ ns _ (hs.below ?_) (hs2.below ?_)).mono ?_
  · exact ((Below.refl _ _).alloc (Nat.le_refl _) _).alloc (by simp) _
  · exact ((Below.refl _ _).alloc (Nat.le_refl _) _).alloc (by simp) _
  rintro e w2 ⟨rfl, hb⟩
  have hbb := ((((Below.refl w.heap.size w).alloc (Nat.le_refl _) _).alloc (by simp) _).trans (hb.mono (by simp; omega)))
  clear hb
  go_wp2
  go_ret
  exact ⟨rfl, hbb⟩

set_option maxRecDepth 100000 in
set_option maxHeartbeats 400000 in
theorem eqBranchS_ok {l1 l2 : Nat} (v v2 : Value) (rs : List BranchD) (w : World) (hs : BranchesAt l1 w v rs) (hs2 : BranchesAt l2 w v2 rs) :
    Calls Tryz.prog 19 #[v, v2] w fun e w' => e = .returned (.bool true) ∧ Below w.heap.size w w' := by
  obtain ⟨ao, cap, rfl, hm, hc⟩ := hs
  obtain ⟨ao2, cap2, rfl, _, hc2⟩ := hs2
  go_enter Tryz.func19, Tryz.ntmps19
  go_wp2
  go_loopw [5] (fun i wr => ∃ k : Nat, k ≤ rs.length ∧ i = .int .i64 k ∧ Below w.heap.size w wr)
    (fun i _ => rs.length - (intOf i).toNat)
  case atStart => exact ⟨0, Nat.zero_le _, rfl, Below.refl _ _⟩
  case round =>
    obtain ⟨k, hk, rfl, hb⟩ := hrel
    by_cases hlt : k < rs.length
    · obtain ⟨b, o, nv, nd, rfl, Hn, hbl, c0, c1, c2, hsv⟩ := hc.elem hb hlt
      obtain ⟨b2, o2, nv2, nd2, rfl, Hn2, hbl2, d0, d1, d2, hsv2⟩ := hc2.elem hb hlt
      have hee : nd = nd2 := Hn.out.symm.trans Hn2.out
      subst hee
      have hbr : b < wr.heap.size := Nat.lt_of_lt_of_le hbl hb.size
      have hbr2 : b2 < wr.heap.size := Nat.lt_of_lt_of_le hbl2 hb.size
      have hi0 : (0 : Int) ≤ (k : Int) := by omega
      have hi1 : (k : Int) < (rs.length : Int) := by omega
      have hq1 : NodesAt l1 wr.drew nv nd.nodes := hsv
      have hq2 : NodesAt l2 wr.drew nv2 nd.nodes := hsv2
      go_wp2
      go_region_held3 (fun w' => w'.cell? ⟨b, o + k * 3, none⟩ = some (.bool nd.bol) ∧ w'.cell? ⟨b, o + k * 3 + 1, none⟩ = some (.bool nd.eol) ∧ w'.cell? ⟨b, o + k * 3 + 2, none⟩ = some nv ∧ w'.cell? ⟨b2, o2 + k * 3, none⟩ = some (.bool nd.bol) ∧ w'.cell? ⟨b2, o2 + k * 3 + 1, none⟩ = some (.bool nd.eol) ∧ w'.cell? ⟨b2, o2 + k * 3 + 2, none⟩ = some nv2) ((first | go_keep | exact ⟨(hcc _ _ hbr).trans c0, (hcc _ _ hbr).trans c1, (hcc _ _ hbr).trans c2, (hcc _ _ hbr2).trans d0, (hcc _ _ hbr2).trans d1, (hcc _ _ hbr2).trans d2⟩)) ((go_at_call 39; refine (eqBranch_ok _ _ _ _ _ _ hq1 hq2).mono ?_; rintro e w2 ⟨rfl, hb2⟩; obtain ⟨hcc, _⟩ := bcell hb2))
      go_wp2
      go_roundw
      case rel => exact ⟨k + 1, by omega, by go_num, below_step hb.drew hb.size hb2⟩
      case measure => simp [intOf]; omega
    · go_wp2
      go_ret
      exact ⟨rfl, hb⟩

set_option maxRecDepth 100000 in
set_option maxHeartbeats 400000 in
theorem eqRule_ok {l1 l2 : Nat} (g : Int) (v v2 : Value) (bs : List BranchD) (w : World) (hs : BranchesAt l1 w v bs) (hs2 : BranchesAt l2 w v2 bs) :
    Calls Tryz.prog 6 #[.agg #[v, .int .i64 g], .agg #[v2, .int .i64 g]] w fun e w' => e = .returned (.bool true) ∧ Below w.heap.size w w' := by
  go_enter Tryz.func6, Tryz.ntmps6
  go_wp2_with fail
  refine (eqBranchS_ok (l1 := l1) (l2 := l2) _ _ bs _ (hs.below ?_) (hs2.below ?_)).mono ?_
  · exact ((Below.refl _ _).alloc (Nat.le_refl _) _).alloc (by simp) _
  · exact ((Below.refl _ _).alloc (Nat.le_refl _) _).alloc (by simp) _
  rintro e w2 ⟨rfl, hb⟩
  obtain ⟨hcc, hff⟩ := bcell hb
  have hbb := ((((Below.refl w.heap.size w).alloc (Nat.le_refl _) _).alloc (by simp) _).trans (hb.mono (by simp; omega)))
  clear hb
  go_wp2
  go_ret
  exact ⟨rfl, hbb⟩
end Go.Proofs.YtgbdlgogccgciaaGreatDoor
namespace Go.Proofs.YtgbdlgogccgciaaGreatDoor
open Go.RowKit

/- THE PLAIN FUNCTIONS of both sides. -/
def arity (k : Int) : Nat := if k = 2 ∨ k = 3 then 2 else if k = 4 ∨ k = 5 then 1 else 0
def copies (mn mx : Int) : Int := if mx = -1 then mn + 1 else if mx < 1 then 1 else mx
def capW (n : Int) : Int := if n ≤ 2001 then n else 2001
def boundsB (mn mx : Int) : Bool := decide (0 ≤ mn ∧ mn ≤ 255) && decide (mx = -1 ∨ (mn ≤ mx ∧ mx ≤ 255))
def loose (mn mx : Int) : Bool := decide (mn = 0 ∧ (mx = 1 ∨ mx = -1))

theorem arity_le (k : Int) : arity k ≤ 2 := by unfold arity; split <;> (try split) <;> omega

set_option maxHeartbeats 400000 in
theorem arity_ok (k : Int) (w : World) : Calls Tryz.prog 64 #[.int .i64 k] w fun e w' => e = .returned (.int .i64 (arity k)) ∧ w' = w := by
  by_cases h2 : k = 2
  · subst h2; go_enter Tryz.func64, Tryz.ntmps64; go_wp2; go_ret; exact ⟨rfl, rfl⟩
  by_cases h3 : k = 3
  · subst h3; go_enter Tryz.func64, Tryz.ntmps64; go_wp2; go_ret; exact ⟨rfl, rfl⟩
  by_cases h4 : k = 4
  · subst h4; go_enter Tryz.func64, Tryz.ntmps64; go_wp2; go_ret; exact ⟨rfl, rfl⟩
  by_cases h5 : k = 5
  · subst h5; go_enter Tryz.func64, Tryz.ntmps64; go_wp2; go_ret; exact ⟨rfl, rfl⟩
  have e2 : (k == 2) = false := beq_eq_false_iff_ne.2 h2
  have e3 : (k == 3) = false := beq_eq_false_iff_ne.2 h3
  have e4 : (k == 4) = false := beq_eq_false_iff_ne.2 h4
  have e5 : (k == 5) = false := beq_eq_false_iff_ne.2 h5
  have ha : Hid (arity k = 0) := by show _ = _; simp [arity, h2, h3, h4, h5]
  clear h2 h3 h4 h5
  go_enter Tryz.func64, Tryz.ntmps64
  go_wp2
  go_ret
  exact ⟨ret_int (by rw [ha.out]; rfl), rfl⟩

set_option maxHeartbeats 400000 in
theorem operands_ok (k : Int) (w : World) : Calls Tryz.prog 77 #[.int .i64 k] w fun e w' => e = .returned (.int .i64 (arity k)) ∧ w' = w := by
  by_cases h2 : k = 2
  · subst h2; go_enter Tryz.func77, Tryz.ntmps77; go_wp2; go_ret; exact ⟨rfl, rfl⟩
  by_cases h3 : k = 3
  · subst h3; go_enter Tryz.func77, Tryz.ntmps77; go_wp2; go_ret; exact ⟨rfl, rfl⟩
  by_cases h4 : k = 4
  · subst h4; go_enter Tryz.func77, Tryz.ntmps77; go_wp2; go_ret; exact ⟨rfl, rfl⟩
  by_cases h5 : k = 5
  · subst h5; go_enter Tryz.func77, Tryz.ntmps77; go_wp2; go_ret; exact ⟨rfl, rfl⟩
  have e2 : (k == 2) = false := beq_eq_false_iff_ne.2 h2
  have e3 : (k == 3) = false := beq_eq_false_iff_ne.2 h3
  have e4 : (k == 4) = false := beq_eq_false_iff_ne.2 h4
  have e5 : (k == 5) = false := beq_eq_false_iff_ne.2 h5
  have ha : Hid (arity k = 0) := by show _ = _; simp [arity, h2, h3, h4, h5]
  clear h2 h3 h4 h5
  go_enter Tryz.func77, Tryz.ntmps77
  go_wp2
  go_ret
  exact ⟨ret_int (by rw [ha.out]; rfl), rfl⟩

set_option maxHeartbeats 400000 in
theorem copies_ok (k mn mx g : Int) (sv : Value) (w : World) (h0 : 0 ≤ mn) (h1 : mn ≤ 255) :
    Calls Tryz.prog 46 #[.agg #[.int .i64 k, sv, .int .i64 mn, .int .i64 mx, .int .i64 g]] w fun e w' => e = .returned (.int .i64 (copies mn mx)) ∧ Below w.heap.size w w' := by
  rcases (show mx = -1 ∨ (mx ≠ -1 ∧ mx < 1) ∨ (mx ≠ -1 ∧ 1 ≤ mx) by omega) with rfl | ⟨ha, hb⟩ | ⟨ha, hb⟩
  all_goals
    go_enter Tryz.func46, Tryz.ntmps46
    go_wp2
    go_ret
    refine ⟨ret_int ?_, (Below.refl _ _).alloc (Nat.le_refl _) _⟩
    simp [copies] <;> omega

set_option maxHeartbeats 400000 in
theorem capWeight_ok (n : Int) (w : World) : Calls Tryz.prog 56 #[.int .i64 n] w fun e w' => e = .returned (.int .i64 (capW n)) ∧ w' = w := by
  by_cases h : n ≤ 2001
  all_goals
    go_enter Tryz.func56, Tryz.ntmps56
    go_wp2
    go_ret
    refine ⟨ret_int ?_, rfl⟩
    simp [capW] <;> omega


set_option maxHeartbeats 400000 in
theorem boundsOK_ok (mn mx : Int) (w : World) : Calls Tryz.prog 89 #[.int .i64 mn, .int .i64 mx] w fun e w' => e = .returned (.bool (boundsB mn mx)) ∧ w' = w := by
  by_cases h0 : mn < 0
  · go_enter Tryz.func89, Tryz.ntmps89; go_wp2; go_ret; exact ⟨ret_bool (by simp [boundsB]; omega), rfl⟩
  by_cases h1 : 255 < mn
  · go_enter Tryz.func89, Tryz.ntmps89; go_wp2; go_ret; exact ⟨ret_bool (by simp [boundsB]; omega), rfl⟩
  by_cases h2 : mx = -1
  · subst h2; go_enter Tryz.func89, Tryz.ntmps89; go_wp2; go_ret; exact ⟨ret_bool (by simp [boundsB]; omega), rfl⟩
  have e2 : (mx == -1) = false := beq_eq_false_iff_ne.2 h2
  have H2 : Hid (mx ≠ -1) := h2
  clear h2
  by_cases h3 : mn ≤ mx
  · by_cases h4 : mx ≤ 255
    · go_enter Tryz.func89, Tryz.ntmps89; go_wp2; go_ret; exact ⟨ret_bool (by have := H2.out; simp [boundsB]; omega), rfl⟩
    · go_enter Tryz.func89, Tryz.ntmps89; go_wp2; go_ret; exact ⟨ret_bool (by have := H2.out; simp [boundsB]; omega), rfl⟩
  · go_enter Tryz.func89, Tryz.ntmps89; go_wp2; go_ret; exact ⟨ret_bool (by have := H2.out; simp [boundsB]; omega), rfl⟩

set_option maxHeartbeats 400000 in
theorem isLoose_ok (v : Value) (mn mx : Int) (w : World) : Calls Tryz.prog 97 #[.agg #[v, .int .i64 mn, .int .i64 mx]] w fun e w' => e = .returned (.bool (loose mn mx)) ∧ Below w.heap.size w w' := by
  by_cases h0 : mn = 0
  · subst h0
    by_cases h1 : mx = 1
    · subst h1; go_enter Tryz.func97, Tryz.ntmps97; go_wp2; go_ret; exact ⟨rfl, (Below.refl _ _).alloc (Nat.le_refl _) _⟩
    by_cases h2 : mx = -1
    · subst h2; go_enter Tryz.func97, Tryz.ntmps97; go_wp2; go_ret; exact ⟨rfl, (Below.refl _ _).alloc (Nat.le_refl _) _⟩
    have e1 : (mx == 1) = false := beq_eq_false_iff_ne.2 h1
    have e2 : (mx == -1) = false := beq_eq_false_iff_ne.2 h2
    have H : Hid (loose 0 mx = false) := by show _ = _; simp [loose, h1, h2]
    clear h1 h2
    go_enter Tryz.func97, Tryz.ntmps97; go_wp2; go_ret; exact ⟨ret_bool H.out.symm, (Below.refl _ _).alloc (Nat.le_refl _) _⟩
  · have e0 : (mn == 0) = false := beq_eq_false_iff_ne.2 h0
    have H : Hid (loose mn mx = false) := by show _ = _; simp [loose, h0]
    clear h0
    go_enter Tryz.func97, Tryz.ntmps97; go_wp2; go_ret; exact ⟨ret_bool H.out.symm, (Below.refl _ _).alloc (Nat.le_refl _) _⟩

end Go.Proofs.YtgbdlgogccgciaaGreatDoor
