import Derived.Test.YtplhghhfdabccaaDat
namespace Go.Proofs.Ytplhghhfdabccaa
open Go.RowKit

set_option maxHeartbeats 400000 in
theorem szRangeS_ok (a : Option Addr) (rs : List (Int × Int)) (cap : Nat) (left : Int) (w : World) (h0 : 0 ≤ left) (h1 : left ≤ 1048576) (h2 : rs.length ≤ 9223372036854775807) :
    Calls Try.prog 123 #[.slice a rs.length cap, .int .i64 left] w fun e w' => e = .returned (.int .i64 (szRangesF rs left)) ∧ w' = w := by
  by_cases hle : left - rs.length < 0
  all_goals
    go_enter Try.func123, Try.ntmps123
    go_wp2
    go_ret
    exact ⟨ret_int (by unfold szRangesF; split <;> omega), rfl⟩

set_option maxHeartbeats 400000 in
theorem szNode_ok {lo : Nat} (k mn mx g : Int) (sv : Value) (rs : List (Int × Int)) (left : Int) (w : World) (hs : RangesAt lo w sv rs) (h0 : 0 ≤ left) (h1 : left ≤ 1048576) :
    Calls Try.prog 117 #[.agg #[.int .i64 k, sv, .int .i64 mn, .int .i64 mx, .int .i64 g], .int .i64 left] w fun e w' => e = .returned (.int .i64 (szRangesF rs left)) ∧ Below w.heap.size w w' := by
  obtain ⟨ao, cap, rfl, hm, hc⟩ := hs
  have hb := szRangesF_le rs left h0
  by_cases hle : szRangesF rs left < 0
  all_goals
    go_enter Try.func117, Try.ntmps117
    go_wp2_with (go_at_call 123; refine (szRangeS_ok _ _ _ _ _ h0 h1 hm).mono ?_; rintro e w' ⟨rfl, rfl⟩)
    go_ret
    exact ⟨ret_int (by omega), (Below.refl _ _).alloc (Nat.le_refl _) _⟩

set_option maxHeartbeats 400000 in
theorem szNodeS_ok {lo : Nat} (v : Value) (ns : List NodeD) (left : Int) (w : World) (hs : NodesAt lo w v ns) (h0 : 0 ≤ left) (h1 : left ≤ 1048576) :
    Calls Try.prog 111 #[v, .int .i64 left] w fun e w' => e = .returned (.int .i64 (szNodesF ns left)) ∧ Below w.heap.size w w' := by
  obtain ⟨ao, cap, rfl, hm, hc⟩ := hs
  by_cases hle : left - ns.length < 0
  · go_enter Try.func111, Try.ntmps111
    go_wp2
    go_ret
    exact ⟨ret_int (by unfold szNodesF; split <;> omega), Below.refl _ _⟩
  · have HS : Hid (szNodesF ns left = szNodesL (ns.drop 0) (left - ns.length)) := by show _ = _; rw [szNodesF, if_neg hle]; rfl
    go_enter Try.func111, Try.ntmps111
    go_wp2
    go_loopw [1, 5] (fun l i wr => ∃ k : Nat, k ≤ ns.length ∧ i = .int .i64 k ∧ ∃ L : Int, l = .int .i64 L ∧ 0 ≤ L ∧ L ≤ 1048576 ∧ Hid (szNodesF ns left = szNodesL (ns.drop k) L) ∧ Below w.heap.size w wr)
      (fun _ i _ => ns.length - (intOf i).toNat)
    case atStart => exact ⟨0, Nat.zero_le _, rfl, _, rfl, by omega, by omega, HS, Below.refl _ _⟩
    case round =>
      obtain ⟨k, hk, rfl, L, rfl, hL0, hL1, HS, hb⟩ := hrel
      by_cases hlt : k < ns.length
      · obtain ⟨b, o, sv, nd, rfl, Hn, hbl, c0, c1, c2, c3, c4, hsv⟩ := hc.elem hb hlt
        have hz := hb.size
        have hq := szRangesF_le nd.set L hL0
        have HD : Hid (szNodesL (ns.drop k) L = if szRangesF nd.set L < 0 then -1 else szNodesL (ns.drop (k + 1)) (szRangesF nd.set L)) := by have := szNodesL_drop ns k hlt L; rw [Hn.out] at this; exact this
        by_cases hneg : szRangesF nd.set L < 0
        · go_wp2_with (go_at_call 117; refine (szNode_ok _ _ _ _ _ _ _ _ hsv hL0 hL1).mono ?_; rintro e w1 ⟨rfl, hb1⟩)
          go_ret
          exact ⟨ret_int (by rw [HS.out, HD.out, if_pos hneg]), below_step hb hz hb1⟩
        · go_wp2_with (go_at_call 117; refine (szNode_ok _ _ _ _ _ _ _ _ hsv hL0 hL1).mono ?_; rintro e w1 ⟨rfl, hb1⟩)
          go_roundw
          case rel => exact ⟨k + 1, by omega, by go_num, _, rfl, by omega, by omega, by show _ = _; rw [HS.out, HD.out, if_neg (by omega)], below_step hb hz hb1⟩
          case measure => simp [intOf]; omega
      · go_wp2
        go_ret
        exact ⟨ret_int (by rw [HS.out, List.drop_eq_nil_of_le (by omega)]; rfl), hb⟩

set_option maxHeartbeats 400000 in
theorem szBranch_ok {lo : Nat} (bol eol : Bool) (nv : Value) (ns : List NodeD) (left : Int) (w : World) (hs : NodesAt lo w nv ns) (h0 : 0 ≤ left) (h1 : left ≤ 1048576) :
    Calls Try.prog 94 #[.agg #[.bool bol, .bool eol, nv], .int .i64 left] w fun e w' => e = .returned (.int .i64 (szNodesF ns left)) ∧ Below w.heap.size w w' := by
  have hb := szNodesF_le ns left h0
  have ha := (Below.refl w.heap.size w).alloc (Nat.le_refl _) (.cells #[.bool bol, .bool eol, nv] 135)
  have hs' := hs.below ha
  by_cases hle : szNodesF ns left < 0
  all_goals
    go_enter Try.func94, Try.ntmps94
    go_wp2_with (go_at_call 111; refine (szNodeS_ok _ _ _ _ hs' h0 h1).mono ?_; rintro e w' ⟨rfl, hb1⟩)
    go_ret
    exact ⟨ret_int (by omega), below_step ha (by simp) hb1⟩

set_option maxHeartbeats 400000 in
theorem szBranchS_ok {lo : Nat} (v : Value) (ns : List BranchD) (left : Int) (w : World) (hs : BranchesAt lo w v ns) (h0 : 0 ≤ left) (h1 : left ≤ 1048576) :
    Calls Try.prog 53 #[v, .int .i64 left] w fun e w' => e = .returned (.int .i64 (szBranchesF ns left)) ∧ Below w.heap.size w w' := by
  obtain ⟨ao, cap, rfl, hm, hc⟩ := hs
  by_cases hle : left - ns.length < 0
  · go_enter Try.func53, Try.ntmps53
    go_wp2
    go_ret
    exact ⟨ret_int (by unfold szBranchesF; split <;> omega), Below.refl _ _⟩
  · have HS : Hid (szBranchesF ns left = szBranchesL (ns.drop 0) (left - ns.length)) := by show _ = _; rw [szBranchesF, if_neg hle]; rfl
    go_enter Try.func53, Try.ntmps53
    go_wp2
    go_loopw [1, 5] (fun l i wr => ∃ k : Nat, k ≤ ns.length ∧ i = .int .i64 k ∧ ∃ L : Int, l = .int .i64 L ∧ 0 ≤ L ∧ L ≤ 1048576 ∧ Hid (szBranchesF ns left = szBranchesL (ns.drop k) L) ∧ Below w.heap.size w wr)
      (fun _ i _ => ns.length - (intOf i).toNat)
    case atStart => exact ⟨0, Nat.zero_le _, rfl, _, rfl, by omega, by omega, HS, Below.refl _ _⟩
    case round =>
      obtain ⟨k, hk, rfl, L, rfl, hL0, hL1, HS, hb⟩ := hrel
      by_cases hlt : k < ns.length
      · obtain ⟨b, o, nv, nd, rfl, Hn, hbl, c0, c1, c2, hnv⟩ := hc.elem hb hlt
        have hz := hb.size
        have hq := szNodesF_le nd.nodes L hL0
        have HD : Hid (szBranchesL (ns.drop k) L = if szNodesF nd.nodes L < 0 then -1 else szBranchesL (ns.drop (k + 1)) (szNodesF nd.nodes L)) := by have := szBranchesL_drop ns k hlt L; rw [Hn.out] at this; exact this
        by_cases hneg : szNodesF nd.nodes L < 0
        · go_wp2_with (go_at_call 94; refine (szBranch_ok _ _ _ _ _ _ hnv hL0 hL1).mono ?_; rintro e w1 ⟨rfl, hb1⟩)
          go_ret
          exact ⟨ret_int (by rw [HS.out, HD.out, if_pos hneg]), below_step hb hz hb1⟩
        · go_wp2_with (go_at_call 94; refine (szBranch_ok _ _ _ _ _ _ hnv hL0 hL1).mono ?_; rintro e w1 ⟨rfl, hb1⟩)
          go_roundw
          case rel => exact ⟨k + 1, by omega, by go_num, _, rfl, by omega, by omega, by show _ = _; rw [HS.out, HD.out, if_neg (by omega)], below_step hb hz hb1⟩
          case measure => simp [intOf]; omega
      · go_wp2
        go_ret
        exact ⟨ret_int (by rw [HS.out, List.drop_eq_nil_of_le (by omega)]; rfl), hb⟩

set_option maxHeartbeats 400000 in
theorem szRule_ok {lo : Nat} (g : Int) (bv : Value) (bs : List BranchD) (left : Int) (w : World) (hs : BranchesAt lo w bv bs) (h0 : 0 ≤ left) (h1 : left ≤ 1048576) :
    Calls Try.prog 14 #[.agg #[bv, .int .i64 g], .int .i64 left] w fun e w' => e = .returned (.int .i64 (szBranchesF bs left)) ∧ Below w.heap.size w w' := by
  have hb := szBranchesF_le bs left h0
  have ha := (Below.refl w.heap.size w).alloc (Nat.le_refl _) (.cells #[bv, .int .i64 g] 24)
  have hs' := hs.below ha
  by_cases hle : szBranchesF bs left < 0
  all_goals
    go_enter Try.func14, Try.ntmps14
    go_wp2_with (go_at_call 53; refine (szBranchS_ok _ _ _ _ hs' h0 h1).mono ?_; rintro e w' ⟨rfl, hb1⟩)
    go_ret
    exact ⟨ret_int (by omega), below_step ha (by simp) hb1⟩
end Go.Proofs.Ytplhghhfdabccaa
