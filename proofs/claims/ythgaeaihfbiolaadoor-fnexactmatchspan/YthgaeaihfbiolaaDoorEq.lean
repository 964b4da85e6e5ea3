import Derived.Test.YthgaeaihfbiolaaDoorTo
import Derived.Deep.RegionHeld3
import Derived.Deep.DrawnRows
namespace Go.Proofs.YthgaeaihfbiolaaDoor
open Go.RowKit
attribute [local go_sem ↓] Go.wp_at_zero Go.wp_at_succ

set_option maxHeartbeats 400000 in
theorem eqRange_ok (lo hi : Int) (w : World) :
    Calls Tryd.prog 80 #[.agg #[.int .i64 lo, .int .i64 hi], .agg #[.int .i64 lo, .int .i64 hi]] w fun e w' => e = .returned (.bool true) ∧ Below w.heap.size w w' := by
  go_enter Tryd.func80, Tryd.ntmps80
  go_wp2
  go_ret
  exact ⟨rfl, ((Below.refl _ _).alloc (Nat.le_refl _) _).alloc (by simp) _⟩

set_option maxRecDepth 100000 in
set_option maxHeartbeats 400000 in
theorem eqRangeS_ok {l1 l2 : Nat} (v v2 : Value) (rs : List (Int × Int)) (w : World) (hs : RangesAt l1 w v rs) (hs2 : RangesAt l2 w v2 rs) :
    Calls Tryd.prog 76 #[v, v2] w fun e w' => e = .returned (.bool true) ∧ Below w.heap.size w w' := by
  obtain ⟨ao, cap, rfl, hm, hc⟩ := hs
  obtain ⟨ao2, cap2, rfl, _, hc2⟩ := hs2
  go_enter Tryd.func76, Tryd.ntmps76
  go_wp2
  go_loopw [5] (fun i wr => ∃ k : Nat, k ≤ rs.length ∧ i = .int .i64 k ∧ Below w.heap.size w wr)
    (fun i _ => rs.length - (intOf i).toNat)
  case atStart => exact ⟨0, Nat.zero_le _, rfl, Below.refl _ _⟩
  case round =>
    obtain ⟨k, hk, rfl, hb⟩ := hrel
    by_cases hlt : k < rs.length
    · obtain ⟨b, o, lo, hi, rfl, Hn, hbl, c0, c1⟩ := hc.elem hb hlt
      obtain ⟨b2, o2, lo2, hi2, rfl, Hn2, hbl2, d0, d1⟩ := hc2.elem hb hlt
      have hee := Hn.out.symm.trans Hn2.out
      simp only [Prod.mk.injEq] at hee
      obtain ⟨rfl, rfl⟩ := hee
      have hbr : b < wr.heap.size := Nat.lt_of_lt_of_le hbl hb.size
      have hbr2 : b2 < wr.heap.size := Nat.lt_of_lt_of_le hbl2 hb.size
      have hi0 : (0 : Int) ≤ (k : Int) := by omega
      have hi1 : (k : Int) < (rs.length : Int) := by omega
      go_wp2
      go_region_held3 (fun w' => w'.cell? ⟨b, o + k * 2, none⟩ = some (.int .i64 lo) ∧ w'.cell? ⟨b, o + k * 2 + 1, none⟩ = some (.int .i64 hi) ∧ w'.cell? ⟨b2, o2 + k * 2, none⟩ = some (.int .i64 lo) ∧ w'.cell? ⟨b2, o2 + k * 2 + 1, none⟩ = some (.int .i64 hi)) ((first | go_keep | exact ⟨(hcc _ _ hbr).trans c0, (hcc _ _ hbr).trans c1, (hcc _ _ hbr2).trans d0, (hcc _ _ hbr2).trans d1⟩)) ((go_at_call 80; refine (eqRange_ok _ _ _).mono ?_; rintro e w2 ⟨rfl, hb2⟩; obtain ⟨hcc, _⟩ := bcell hb2))
      go_wp2
      go_roundw
      case rel => exact ⟨k + 1, by omega, by go_num, below_step hb.drew hb.size hb2⟩
      case measure => simp [intOf]; omega
    · go_wp2
      go_ret
      exact ⟨rfl, hb⟩

set_option maxRecDepth 100000 in
set_option maxHeartbeats 400000 in
theorem eqNode_ok {l1 l2 : Nat} (k mn mx g : Int) (v v2 : Value) (rs : List (Int × Int)) (w : World) (hs : RangesAt l1 w v rs) (hs2 : RangesAt l2 w v2 rs) :
    Calls Tryd.prog 68 #[.agg #[.int .i64 k, v, .int .i64 mn, .int .i64 mx, .int .i64 g], .agg #[.int .i64 k, v2, .int .i64 mn, .int .i64 mx, .int .i64 g]] w fun e w' => e = .returned (.bool true) ∧ Below w.heap.size w w' := by
  go_enter Tryd.func68, Tryd.ntmps68
  go_wp2_with fail
  refine (eqRangeS_ok (l1 := l1) (l2 := l2) _ _ rs _ (hs.below ?_) (hs2.below ?_)).mono ?_
  · exact ((Below.refl _ _).alloc (Nat.le_refl _) _).alloc (by simp) _
  · exact ((Below.refl _ _).alloc (Nat.le_refl _) _).alloc (by simp) _
  rintro e w2 ⟨rfl, hb⟩
  obtain ⟨hcc, hff⟩ := bcell hb
  have hbb := ((((Below.refl w.heap.size w).alloc (Nat.le_refl _) _).alloc (by simp) _).trans (hb.mono (by simp; omega)))
  clear hb
  go_wp2
  go_ret
  exact ⟨rfl, hbb⟩

set_option maxRecDepth 100000 in
set_option maxHeartbeats 400000 in
theorem eqNodeS_ok {l1 l2 : Nat} (v v2 : Value) (rs : List NodeD) (w : World) (hs : NodesAt l1 w v rs) (hs2 : NodesAt l2 w v2 rs) :
    Calls Tryd.prog 58 #[v, v2] w fun e w' => e = .returned (.bool true) ∧ Below w.heap.size w w' := by
  obtain ⟨ao, cap, rfl, hm, hc⟩ := hs
  obtain ⟨ao2, cap2, rfl, _, hc2⟩ := hs2
  go_enter Tryd.func58, Tryd.ntmps58
  go_wp2
  go_loopw [5] (fun i wr => ∃ k : Nat, k ≤ rs.length ∧ i = .int .i64 k ∧ Below w.heap.size w wr)
    (fun i _ => rs.length - (intOf i).toNat)
  case atStart => exact ⟨0, Nat.zero_le _, rfl, Below.refl _ _⟩
  case round =>
    obtain ⟨k, hk, rfl, hb⟩ := hrel
    by_cases hlt : k < rs.length
    · obtain ⟨b, o, sv, nd, rfl, Hn, hbl, c0, c1, c2, c3, c4, hsv⟩ := hc.elem hb hlt
      obtain ⟨b2, o2, sv2, nd2, rfl, Hn2, hbl2, d0, d1, d2, d3, d4, hsv2⟩ := hc2.elem hb hlt
      have hee : nd = nd2 := Hn.out.symm.trans Hn2.out
      subst hee
      have hbr : b < wr.heap.size := Nat.lt_of_lt_of_le hbl hb.size
      have hbr2 : b2 < wr.heap.size := Nat.lt_of_lt_of_le hbl2 hb.size
      have hi0 : (0 : Int) ≤ (k : Int) := by omega
      have hi1 : (k : Int) < (rs.length : Int) := by omega
      have hq1 : RangesAt l1 wr.drew sv nd.set := hsv
      have hq2 : RangesAt l2 wr.drew sv2 nd.set := hsv2
      go_wp2
      go_region_held3 (fun w' => w'.cell? ⟨b, o + k * 5, none⟩ = some (.int .i64 nd.kind) ∧ w'.cell? ⟨b, o + k * 5 + 1, none⟩ = some sv ∧ w'.cell? ⟨b, o + k * 5 + 2, none⟩ = some (.int .i64 nd.min) ∧ w'.cell? ⟨b, o + k * 5 + 3, none⟩ = some (.int .i64 nd.max) ∧ w'.cell? ⟨b, o + k * 5 + 4, none⟩ = some (.int .i64 nd.group) ∧ w'.cell? ⟨b2, o2 + k * 5, none⟩ = some (.int .i64 nd.kind) ∧ w'.cell? ⟨b2, o2 + k * 5 + 1, none⟩ = some sv2 ∧ w'.cell? ⟨b2, o2 + k * 5 + 2, none⟩ = some (.int .i64 nd.min) ∧ w'.cell? ⟨b2, o2 + k * 5 + 3, none⟩ = some (.int .i64 nd.max) ∧ w'.cell? ⟨b2, o2 + k * 5 + 4, none⟩ = some (.int .i64 nd.group)) ((first | go_keep | exact ⟨(hcc _ _ hbr).trans c0, (hcc _ _ hbr).trans c1, (hcc _ _ hbr).trans c2, (hcc _ _ hbr).trans c3, (hcc _ _ hbr).trans c4, (hcc _ _ hbr2).trans d0, (hcc _ _ hbr2).trans d1, (hcc _ _ hbr2).trans d2, (hcc _ _ hbr2).trans d3, (hcc _ _ hbr2).trans d4⟩)) ((go_at_call 68; refine (eqNode_ok _ _ _ _ _ _ _ _ hq1 hq2).mono ?_; rintro e w2 ⟨rfl, hb2⟩; obtain ⟨hcc, _⟩ := bcell hb2))
      go_wp2
      go_roundw
      case rel => exact ⟨k + 1, by omega, by go_num, below_step hb.drew hb.size hb2⟩
      case measure => simp [intOf]; omega
    · go_wp2
      go_ret
      exact ⟨rfl, hb⟩

set_option maxRecDepth 100000 in
set_option maxHeartbeats 400000 in
theorem eqBranch_ok {l1 l2 : Nat} (bol eol : Bool) (v v2 : Value) (ns : List NodeD) (w : World) (hs : NodesAt l1 w v ns) (hs2 : NodesAt l2 w v2 ns) :
    Calls Tryd.prog 44 #[.agg #[.bool bol, .bool eol, v], .agg #[.bool bol, .bool eol, v2]] w fun e w' => e = .returned (.bool true) ∧ Below w.heap.size w w' := by
  go_enter Tryd.func44, Tryd.ntmps44
  go_wp2_with fail
  refine (eqNodeS_ok (l1 := l1) (l2 := l2) _ _ ns _ (hs.below ?_) (hs2.below ?_)).mono ?_
  · exact ((Below.refl _ _).alloc (Nat.le_refl _) _).alloc (by simp) _
  · exact ((Below.refl _ _).alloc (Nat.le_refl _) _).alloc (by simp) _
  rintro e w2 ⟨rfl, hb⟩
  have hbb := ((((Below.refl w.heap.size w).alloc (Nat.le_refl _) _).alloc (by simp) _).trans (hb.mono (by simp; omega)))
  clear hb
  go_wp2
  go_ret
  exact ⟨rfl, hbb⟩

set_option maxRecDepth 100000 in
set_option maxHeartbeats 400000 in
theorem eqBranchS_ok {l1 l2 : Nat} (v v2 : Value) (rs : List BranchD) (w : World) (hs : BranchesAt l1 w v rs) (hs2 : BranchesAt l2 w v2 rs) :
    Calls Tryd.prog 23 #[v, v2] w fun e w' => e = .returned (.bool true) ∧ Below w.heap.size w w' := by
  obtain ⟨ao, cap, rfl, hm, hc⟩ := hs
  obtain ⟨ao2, cap2, rfl, _, hc2⟩ := hs2
  go_enter Tryd.func23, Tryd.ntmps23
  go_wp2
  go_loopw [5] (fun i wr => ∃ k : Nat, k ≤ rs.length ∧ i = .int .i64 k ∧ Below w.heap.size w wr)
    (fun i _ => rs.length - (intOf i).toNat)
  case atStart => exact ⟨0, Nat.zero_le _, rfl, Below.refl _ _⟩
  case round =>
    obtain ⟨k, hk, rfl, hb⟩ := hrel
    by_cases hlt : k < rs.length
    · obtain ⟨b, o, nv, nd, rfl, Hn, hbl, c0, c1, c2, hsv⟩ := hc.elem hb hlt
      obtain ⟨b2, o2, nv2, nd2, rfl, Hn2, hbl2, d0, d1, d2, hsv2⟩ := hc2.elem hb hlt
      have hee : nd = nd2 := Hn.out.symm.trans Hn2.out
      subst hee
      have hbr : b < wr.heap.size := Nat.lt_of_lt_of_le hbl hb.size
      have hbr2 : b2 < wr.heap.size := Nat.lt_of_lt_of_le hbl2 hb.size
      have hi0 : (0 : Int) ≤ (k : Int) := by omega
      have hi1 : (k : Int) < (rs.length : Int) := by omega
      have hq1 : NodesAt l1 wr.drew nv nd.nodes := hsv
      have hq2 : NodesAt l2 wr.drew nv2 nd.nodes := hsv2
      go_wp2
      go_region_held3 (fun w' => w'.cell? ⟨b, o + k * 3, none⟩ = some (.bool nd.bol) ∧ w'.cell? ⟨b, o + k * 3 + 1, none⟩ = some (.bool nd.eol) ∧ w'.cell? ⟨b, o + k * 3 + 2, none⟩ = some nv ∧ w'.cell? ⟨b2, o2 + k * 3, none⟩ = some (.bool nd.bol) ∧ w'.cell? ⟨b2, o2 + k * 3 + 1, none⟩ = some (.bool nd.eol) ∧ w'.cell? ⟨b2, o2 + k * 3 + 2, none⟩ = some nv2) ((first | go_keep | exact ⟨(hcc _ _ hbr).trans c0, (hcc _ _ hbr).trans c1, (hcc _ _ hbr).trans c2, (hcc _ _ hbr2).trans d0, (hcc _ _ hbr2).trans d1, (hcc _ _ hbr2).trans d2⟩)) ((go_at_call 44; refine (eqBranch_ok _ _ _ _ _ _ hq1 hq2).mono ?_; rintro e w2 ⟨rfl, hb2⟩; obtain ⟨hcc, _⟩ := bcell hb2))
      go_wp2
      go_roundw
      case rel => exact ⟨k + 1, by omega, by go_num, below_step hb.drew hb.size hb2⟩
      case measure => simp [intOf]; omega
    · go_wp2
      go_ret
      exact ⟨rfl, hb⟩

set_option maxRecDepth 100000 in
set_option maxHeartbeats 400000 in
theorem eqRule_ok {l1 l2 : Nat} (g : Int) (v v2 : Value) (bs : List BranchD) (w : World) (hs : BranchesAt l1 w v bs) (hs2 : BranchesAt l2 w v2 bs) :
    Calls Tryd.prog 8 #[.agg #[v, .int .i64 g], .agg #[v2, .int .i64 g]] w fun e w' => e = .returned (.bool true) ∧ Below w.heap.size w w' := by
  go_enter Tryd.func8, Tryd.ntmps8
  go_wp2_with fail
  refine (eqBranchS_ok (l1 := l1) (l2 := l2) _ _ bs _ (hs.below ?_) (hs2.below ?_)).mono ?_
  · exact ((Below.refl _ _).alloc (Nat.le_refl _) _).alloc (by simp) _
  · exact ((Below.refl _ _).alloc (Nat.le_refl _) _).alloc (by simp) _
  rintro e w2 ⟨rfl, hb⟩
  obtain ⟨hcc, hff⟩ := bcell hb
  have hbb := ((((Below.refl w.heap.size w).alloc (Nat.le_refl _) _).alloc (by simp) _).trans (hb.mono (by simp; omega)))
  clear hb
  go_wp2
  go_ret
  exact ⟨rfl, hbb⟩
end Go.Proofs.YthgaeaihfbiolaaDoor
