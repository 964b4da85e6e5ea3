import Derived.Test.YthgaeaihfbiolaaDoorDat
namespace Go.Proofs.YthgaeaihfbiolaaDoor
open Go.RowKit

set_option maxHeartbeats 400000 in
theorem szRangeS_ok (a : Option Addr) (rs : List (Int × Int)) (cap : Nat) (left : Int) (w : World) (h0 : 0 ≤ left) (h1 : left ≤ 1048576) (h2 : rs.length ≤ 9223372036854775807) :
    Calls Tryd.prog 69 #[.slice a rs.length cap, .int .i64 left] w fun e w' => e = .returned (.int .i64 (szRangesF rs left)) ∧ w' = w := by
  by_cases hle : left - rs.length < 0
  all_goals
    go_enter Tryd.func69, Tryd.ntmps69
    go_wp2
    go_ret
    exact ⟨ret_int (by unfold szRangesF; split <;> omega), rfl⟩

set_option maxHeartbeats 400000 in
theorem szNode_ok {lo : Nat} (k mn mx g : Int) (sv : Value) (rs : List (Int × Int)) (left : Int) (w : World) (hs : RangesAt lo w sv rs) (h0 : 0 ≤ left) (h1 : left ≤ 1048576) :
    Calls Tryd.prog 59 #[.agg #[.int .i64 k, sv, .int .i64 mn, .int .i64 mx, .int .i64 g], .int .i64 left] w fun e w' => e = .returned (.int .i64 (szRangesF rs left)) ∧ Below w.heap.size w w' := by
  obtain ⟨ao, cap, rfl, hm, hc⟩ := hs
  have hb := szRangesF_le rs left h0
  by_cases hle : szRangesF rs left < 0
  all_goals
    go_enter Tryd.func59, Tryd.ntmps59
    go_wp2_with (go_at_call 69; refine (szRangeS_ok _ _ _ _ _ h0 h1 hm).mono ?_; rintro e w' ⟨rfl, rfl⟩)
    go_ret
    exact ⟨ret_int (by omega), (Below.refl _ _).alloc (Nat.le_refl _) _⟩

set_option maxHeartbeats 400000 in
theorem szNodeS_ok {lo : Nat} (v : Value) (ns : List NodeD) (left : Int) (w : World) (hs : NodesAt lo w v ns) (h0 : 0 ≤ left) (h1 : left ≤ 1048576) :
    Calls Tryd.prog 45 #[v, .int .i64 left] w fun e w' => e = .returned (.int .i64 (szNodesF ns left)) ∧ Below w.heap.size w w' := by
  obtain ⟨ao, cap, rfl, hm, hc⟩ := hs
  by_cases hle : left - ns.length < 0
  · go_enter Tryd.func45, Tryd.ntmps45
    go_wp2
    go_ret
    exact ⟨ret_int (by unfold szNodesF; split <;> omega), Below.refl _ _⟩
  · have HS : Hid (szNodesF ns left = szNodesL (ns.drop 0) (left - ns.length)) := by show _ = _; rw [szNodesF, if_neg hle]; rfl
    go_enter Tryd.func45, Tryd.ntmps45
    go_wp2
    go_loopw [1, 5] (fun l i wr => ∃ k : Nat, k ≤ ns.length ∧ i = .int .i64 k ∧ ∃ L : Int, l = .int .i64 L ∧ 0 ≤ L ∧ L ≤ 1048576 ∧ Hid (szNodesF ns left = szNodesL (ns.drop k) L) ∧ Below w.heap.size w wr)
      (fun _ i _ => ns.length - (intOf i).toNat)
    case atStart => exact ⟨0, Nat.zero_le _, rfl, _, rfl, by omega, by omega, HS, Below.refl _ _⟩
    case round =>
      obtain ⟨k, hk, rfl, L, rfl, hL0, hL1, HS, hb⟩ := hrel
      by_cases hlt : k < ns.length
      · obtain ⟨b, o, sv, nd, rfl, Hn, hbl, c0, c1, c2, c3, c4, hsv⟩ := hc.elem hb hlt
        have hz := hb.size
        have hq := szRangesF_le nd.set L hL0
        have HD : Hid (szNodesL (ns.drop k) L = if szRangesF nd.set L < 0 then -1 else szNodesL (ns.drop (k + 1)) (szRangesF nd.set L)) := by have := szNodesL_drop ns k hlt L; rw [Hn.out] at this; exact this
        by_cases hneg : szRangesF nd.set L < 0
        · go_wp2_with (go_at_call 59; refine (szNode_ok _ _ _ _ _ _ _ _ hsv hL0 hL1).mono ?_; rintro e w1 ⟨rfl, hb1⟩)
          go_ret
          exact ⟨ret_int (by rw [HS.out, HD.out, if_pos hneg]), below_step hb hz hb1⟩
        · go_wp2_with (go_at_call 59; refine (szNode_ok _ _ _ _ _ _ _ _ hsv hL0 hL1).mono ?_; rintro e w1 ⟨rfl, hb1⟩)
          go_roundw
          case rel => exact ⟨k + 1, by omega, by go_num, _, rfl, by omega, by omega, by show _ = _; rw [HS.out, HD.out, if_neg (by omega)], below_step hb hz hb1⟩
          case measure => simp [intOf]; omega
      · go_wp2
        go_ret
        exact ⟨ret_int (by rw [HS.out, List.drop_eq_nil_of_le (by omega)]; rfl), hb⟩

set_option maxHeartbeats 400000 in
theorem szBranch_ok {lo : Nat} (bol eol : Bool) (nv : Value) (ns : List NodeD) (left : Int) (w : World) (hs : NodesAt lo w nv ns) (h0 : 0 ≤ left) (h1 : left ≤ 1048576) :
    Calls Tryd.prog 24 #[.agg #[.bool bol, .bool eol, nv], .int .i64 left] w fun e w' => e = .returned (.int .i64 (szNodesF ns left)) ∧ Below w.heap.size w w' := by
  have hb := szNodesF_le ns left h0
  have ha := (Below.refl w.heap.size w).alloc (Nat.le_refl _) (.cells #[.bool bol, .bool eol, nv] 63)
  have hs' := hs.below ha
  by_cases hle : szNodesF ns left < 0
  all_goals
    go_enter Tryd.func24, Tryd.ntmps24
    go_wp2_with (go_at_call 45; refine (szNodeS_ok _ _ _ _ hs' h0 h1).mono ?_; rintro e w' ⟨rfl, hb1⟩)
    go_ret
    exact ⟨ret_int (by omega), below_step ha (by simp) hb1⟩

set_option maxHeartbeats 400000 in
theorem szBranchS_ok {lo : Nat} (v : Value) (ns : List BranchD) (left : Int) (w : World) (hs : BranchesAt lo w v ns) (h0 : 0 ≤ left) (h1 : left ≤ 1048576) :
    Calls Tryd.prog 9 #[v, .int .i64 left] w fun e w' => e = .returned (.int .i64 (szBranchesF ns left)) ∧ Below w.heap.size w w' := by
  obtain ⟨ao, cap, rfl, hm, hc⟩ := hs
  by_cases hle : left - ns.length < 0
  · go_enter Tryd.func9, Tryd.ntmps9
    go_wp2
    go_ret
    exact ⟨ret_int (by unfold szBranchesF; split <;> omega), Below.refl _ _⟩
  · have HS : Hid (szBranchesF ns left = szBranchesL (ns.drop 0) (left - ns.length)) := by show _ = _; rw [szBranchesF, if_neg hle]; rfl
    go_enter Tryd.func9, Tryd.ntmps9
    go_wp2
    go_loopw [1, 5] (fun l i wr => ∃ k : Nat, k ≤ ns.length ∧ i = .int .i64 k ∧ ∃ L : Int, l = .int .i64 L ∧ 0 ≤ L ∧ L ≤ 1048576 ∧ Hid (szBranchesF ns left = szBranchesL (ns.drop k) L) ∧ Below w.heap.size w wr)
      (fun _ i _ => ns.length - (intOf i).toNat)
    case atStart => exact ⟨0, Nat.zero_le _, rfl, _, rfl, by omega, by omega, HS, Below.refl _ _⟩
    case round =>
      obtain ⟨k, hk, rfl, L, rfl, hL0, hL1, HS, hb⟩ := hrel
      by_cases hlt : k < ns.length
      · obtain ⟨b, o, nv, nd, rfl, Hn, hbl, c0, c1, c2, hnv⟩ := hc.elem hb hlt
        have hz := hb.size
        have hq := szNodesF_le nd.nodes L hL0
        have HD : Hid (szBranchesL (ns.drop k) L = if szNodesF nd.nodes L < 0 then -1 else szBranchesL (ns.drop (k + 1)) (szNodesF nd.nodes L)) := by have := szBranchesL_drop ns k hlt L; rw [Hn.out] at this; exact this
        by_cases hneg : szNodesF nd.nodes L < 0
        · go_wp2_with (go_at_call 24; refine (szBranch_ok _ _ _ _ _ _ hnv hL0 hL1).mono ?_; rintro e w1 ⟨rfl, hb1⟩)
          go_ret
          exact ⟨ret_int (by rw [HS.out, HD.out, if_pos hneg]), below_step hb hz hb1⟩
        · go_wp2_with (go_at_call 24; refine (szBranch_ok _ _ _ _ _ _ hnv hL0 hL1).mono ?_; rintro e w1 ⟨rfl, hb1⟩)
          go_roundw
          case rel => exact ⟨k + 1, by omega, by go_num, _, rfl, by omega, by omega, by show _ = _; rw [HS.out, HD.out, if_neg (by omega)], below_step hb hz hb1⟩
          case measure => simp [intOf]; omega
      · go_wp2
        go_ret
        exact ⟨ret_int (by rw [HS.out, List.drop_eq_nil_of_le (by omega)]; rfl), hb⟩

set_option maxHeartbeats 400000 in
theorem szRule_ok {lo : Nat} (g : Int) (bv : Value) (bs : List BranchD) (left : Int) (w : World) (hs : BranchesAt lo w bv bs) (h0 : 0 ≤ left) (h1 : left ≤ 1048576) :
    Calls Tryd.prog 4 #[.agg #[bv, .int .i64 g], .int .i64 left] w fun e w' => e = .returned (.int .i64 (szBranchesF bs left)) ∧ Below w.heap.size w w' := by
  have hb := szBranchesF_le bs left h0
  have ha := (Below.refl w.heap.size w).alloc (Nat.le_refl _) (.cells #[bv, .int .i64 g] 24)
  have hs' := hs.below ha
  by_cases hle : szBranchesF bs left < 0
  all_goals
    go_enter Tryd.func4, Tryd.ntmps4
    go_wp2_with (go_at_call 9; refine (szBranchS_ok _ _ _ _ hs' h0 h1).mono ?_; rintro e w' ⟨rfl, hb1⟩)
    go_ret
    exact ⟨ret_int (by omega), below_step ha (by simp) hb1⟩
end Go.Proofs.YthgaeaihfbiolaaDoor
namespace Go.Proofs.YthgaeaihfbiolaaDoor
open Go.RowKit

theorem Tryd.infoNode : (Tryd.prog.info? 106).map (fun i => (i.zero, i.size, i.bytes)) = some (some (.agg #[.int .i64 0, .slice none 0 0, .int .i64 0, .int .i64 0, .int .i64 0]), 5, 56) := by kernel_rfl
theorem Tryd.infoBranch : (Tryd.prog.info? 37).map (fun i => (i.zero, i.size, i.bytes)) = some (some (.agg #[.bool false, .bool false, .slice none 0 0]), 3, 32) := by kernel_rfl
theorem Tryd.infoRange : (Tryd.prog.info? 126).map (fun i => (i.zero, i.size, i.bytes)) = some (some (.agg #[.int .i64 0, .int .i64 0]), 2, 16) := by kernel_rfl

set_option maxHeartbeats 400000 in
theorem toRange_ok (lo hi : Int) (w : World) :
    Calls Tryd.prog 77 #[.agg #[.int .i64 lo, .int .i64 hi]] w fun e w' => e = .returned (.agg #[.int .i64 lo, .int .i64 hi]) ∧ Below w.heap.size w w' := by
  go_enter Tryd.func77, Tryd.ntmps77
  go_wp2
  exact bodyPost_ret (v := .agg #[.int .i64 lo, .int .i64 hi]) (by simp [results, Tryd.results77, go_sem]) rfl ⟨rfl, (((Below.refl _ _).alloc (Nat.le_refl _) _).alloc (by simp) _).alloc (by simp; omega) _⟩

set_option maxRecDepth 100000 in
set_option maxHeartbeats 400000 in
theorem toRangeS_ok {lo : Nat} (v : Value) (rs : List (Int × Int)) (w : World) (hs : RangesAt lo w v rs) (hn : rs.length ≤ 1048576) :
    Calls Tryd.prog 71 #[v] w fun e w' => ∃ v', e = .returned v' ∧ RangesAt w.heap.size w' v' rs ∧ Below w.heap.size w w' := by
  obtain ⟨ao, cap, rfl, hm, hc⟩ := hs
  obtain ⟨i0, hi, hz0, hz1, hz2⟩ := info_parts Tryd.infoRange
  go_enter Tryd.func71, Tryd.ntmps71
  go_wp2_with (refine wpList_make_full _ rfl _ _ 104 rfl w.heap.size 126 i0 _ 2 Tryd.underlying104 hi hz0 hz1 _ _ _ _ rs.length rfl rfl rfl rfl (by rw [hz2]; omega) (by unfold maxLen; omega) (Nat.le_refl _) ?_; intro w1 hown hgrow)
  have hbw : Below w.heap.size w w1 := (Below.refl _ _).grown hgrow (Nat.le_refl _) (by intro k h; cases h)
  clear hgrow
  go_loopw [4] (fun i wr => ∃ k : Nat, k ≤ rs.length ∧ i = .int .i64 k ∧ Below w.heap.size w wr ∧ ∃ xs : List Value, wr.ownsRow w.heap.size 126 2 (.slice (some ⟨w.heap.size, 0, none⟩) rs.length rs.length) rs.length xs ∧
      Filled xs 2 k (fun j => [.int .i64 (rs.getD j (0, 0)).1, .int .i64 (rs.getD j (0, 0)).2]))
    (fun i _ => rs.length - (intOf i).toNat)
  case atStart => exact ⟨0, Nat.zero_le _, rfl, hbw, _, hown, fun j hj => absurd hj (Nat.not_lt_zero _)⟩
  case round =>
    obtain ⟨k, hk, rfl, hb, xs, hown, hfill⟩ := hrel
    by_cases hlt : k < rs.length
    · obtain ⟨b, o, lo, hi, rfl, Hn, hbl, c0, c1⟩ := hc.elem hb hlt
      go_wp2_with (go_at_call 77; refine (toRange_ok _ _ _).mono ?_; rintro e w2 ⟨rfl, hb2⟩; have hown2 := ownsRow_below hown hb2; obtain ⟨u0, u1, d0, d1, f0, f1⟩ := own_two hown2 hlt)
      go_roundw
      case rel => exact ⟨k + 1, by omega, by go_num, ((below_step hb hb.size hb2).setCell (Nat.le_refl _) _).setCell (Nat.le_refl _) _, _, ((hown2.stored _ _).1.stored _ _).1, filled_two hfill (by have := hown2.1; omega) (by rw [Hn.out])⟩
      case measure => simp [intOf]; omega
    · go_wp2
      have hkk : k = rs.length := by omega
      refine bodyPost_ret (v := .slice (some ⟨w.heap.size, 0, none⟩) rs.length rs.length) (by simp [results, Tryd.results71, go_sem]) rfl ⟨_, rfl, ⟨_, _, rfl, hm, fun _ => ⟨w.heap.size, 0, rfl, Nat.le_refl _, own_lt hown, fun i hi => ?_⟩⟩, hb⟩
      rw [hkk] at hfill
      have e0 := filled_cell hown hfill (c := 0) hi (by omega)
      have e1 := filled_cell hown hfill (c := 1) hi (by omega)
      simp only [Nat.add_zero, Nat.zero_add] at e0 e1 ⊢
      exact ⟨e0, e1⟩
end Go.Proofs.YthgaeaihfbiolaaDoor
