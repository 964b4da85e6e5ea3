import Derived.Test.YthgaeaihfbiolaaDoorSzOwn
namespace Go.Proofs.YthgaeaihfbiolaaDoor
open Go.RowKit

theorem RangesAt.setCell {lo : Nat} {w : World} {v : Value} {rs : List (Int × Int)} (h : RangesAt lo w v rs) {a : Addr} (ha : a.block < lo) (u : Value) : RangesAt lo (w.setCell a u) v rs := h.same (Same.setCell w ha u)
theorem NodesAt.setCell {lo : Nat} {w : World} {v : Value} {rs : List NodeD} (h : NodesAt lo w v rs) {a : Addr} (ha : a.block < lo) (u : Value) : NodesAt lo (w.setCell a u) v rs := h.same (Same.setCell w ha u)
theorem BranchesAt.setCell {lo : Nat} {w : World} {v : Value} {rs : List BranchD} (h : BranchesAt lo w v rs) {a : Addr} (ha : a.block < lo) (u : Value) : BranchesAt lo (w.setCell a u) v rs := h.same (Same.setCell w ha u)
theorem BranchesAt.mono {lo lo' : Nat} {w : World} {v : Value} {rs : List BranchD} (h : BranchesAt lo w v rs) (hl : lo' ≤ lo) : BranchesAt lo' w v rs := by
  obtain ⟨ao, cap, rfl, hm, h⟩ := h
  refine ⟨ao, cap, rfl, hm, fun h0 => ?_⟩
  obtain ⟨b, o, rfl, hge, hlt, hc⟩ := h h0
  refine ⟨b, o, rfl, Nat.le_trans hl hge, hlt, fun i hi => ?_⟩
  obtain ⟨c0, c1, ⟨sv, c2, hs⟩⟩ := hc i hi
  exact ⟨c0, c1, ⟨sv, c2, hs.mono hl⟩⟩

set_option maxRecDepth 100000 in
set_option maxHeartbeats 400000 in
theorem toNode_ok {lo : Nat} (k mn mx g : Int) (sv : Value) (rs : List (Int × Int)) (w : World) (hs : RangesAt lo w sv rs) (hn : rs.length ≤ 1048576) :
    Calls Tryd.prog 63 #[.agg #[.int .i64 k, sv, .int .i64 mn, .int .i64 mx, .int .i64 g]] w fun e w' => ∃ sv', e = .returned (.agg #[.int .i64 k, sv', .int .i64 mn, .int .i64 mx, .int .i64 g]) ∧ RangesAt w.heap.size w' sv' rs ∧ Below w.heap.size w w' := by
  go_enter Tryd.func63, Tryd.ntmps63
  go_wp2_with fail
  refine (toRangeS_ok (lo := lo) _ rs _ (hs.below ?_) hn).mono ?_
  · exact (((Below.refl _ _).alloc (Nat.le_refl _) _).alloc (by simp) _).alloc (by simp; omega) _
  rintro e w2 ⟨sv', rfl, hr, hb⟩
  obtain ⟨ao', cap', rfl, hm', hc'⟩ := hr
  obtain ⟨hcc, hff⟩ := bcell hb
  have hz := hb.size
  simp only [World.size_alloc] at hc' hz
  have hr : RangesAt (w.heap.size + 1 + 1 + 1) w2 (.slice ao' rs.length cap') rs := ⟨_, _, rfl, hm', hc'⟩
  have hbb := (((((Below.refl w.heap.size w).alloc (Nat.le_refl _) _).alloc (by simp) _).alloc (by simp; omega) _).trans (hb.mono (by simp; omega)))
  clear hb
  go_wp2
  refine bodyPost_ret (v := .agg #[.int .i64 k, .slice ao' rs.length cap', .int .i64 mn, .int .i64 mx, .int .i64 g]) (by simp [results, Tryd.results63, go_sem, hcc]) rfl ⟨_, rfl, ?_, ?_⟩
  · refine RangesAt.mono (lo := w.heap.size + 1 + 1 + 1) ?_ (by omega)
    iterate 9 refine RangesAt.setCell ?_ (by simp) _
    exact hr
  · iterate 9 refine Below.setCell ?_ (by simp <;> omega) _
    exact hbb
def nodeRow (ns : List NodeD) (S : Nat → Value) (j : Nat) : List Value := [.int .i64 (ns.getD j .zero).kind, S j, .int .i64 (ns.getD j .zero).min, .int .i64 (ns.getD j .zero).max, .int .i64 (ns.getD j .zero).group]
def branchRow (bs : List BranchD) (S : Nat → Value) (j : Nat) : List Value := [.bool (bs.getD j .zero).bol, .bool (bs.getD j .zero).eol, S j]

set_option maxRecDepth 100000 in
set_option maxHeartbeats 400000 in
theorem toNodeS_ok {lo : Nat} (v : Value) (ns : List NodeD) (w : World) (hs : NodesAt lo w v ns) (hn : ns.length ≤ 1048576) (hset : ∀ i, i < ns.length → (ns.getD i .zero).set.length ≤ 1048576) :
    Calls Tryd.prog 53 #[v] w fun e w' => ∃ v', e = .returned v' ∧ NodesAt w.heap.size w' v' ns ∧ Below w.heap.size w w' := by
  obtain ⟨ao, cap, rfl, hm, hc⟩ := hs
  obtain ⟨i0, hi, hz0, hz1, hz2⟩ := info_parts Tryd.infoNode
  go_enter Tryd.func53, Tryd.ntmps53
  go_wp2_with (refine wpList_make_full _ rfl _ _ 35 rfl w.heap.size 106 i0 _ 5 Tryd.underlying35 hi hz0 hz1 _ _ _ _ ns.length rfl rfl rfl rfl (by rw [hz2]; omega) (by unfold maxLen; omega) (Nat.le_refl _) ?_; intro w1 hown hgrow)
  have hbw : Below w.heap.size w w1 := (Below.refl _ _).grown hgrow (Nat.le_refl _) (by intro k h; cases h)
  clear hgrow
  go_loopw [4] (fun i wr => ∃ k : Nat, k ≤ ns.length ∧ i = .int .i64 k ∧ Below w.heap.size w wr ∧ ∃ (xs : List Value) (S : Nat → Value), wr.ownsRow w.heap.size 106 5 (.slice (some ⟨w.heap.size, 0, none⟩) ns.length ns.length) ns.length xs ∧
      Filled xs 5 k (nodeRow ns S) ∧ ∀ j, j < k → RangesAt (w.heap.size + 1) wr (S j) (ns.getD j .zero).set)
    (fun i _ => ns.length - (intOf i).toNat)
  case atStart => exact ⟨0, Nat.zero_le _, rfl, hbw, _, fun _ => .nilIface, hown, fun j hj => absurd hj (Nat.not_lt_zero _), fun j hj => absurd hj (Nat.not_lt_zero _)⟩
  case round =>
    obtain ⟨k, hk, rfl, hb, xs, S, hown, hfill, HS0⟩ := hrel
    have HS : Hid (∀ j, j < k → RangesAt (w.heap.size + 1) wr (S j) (ns.getD j .zero).set) := HS0
    clear HS0
    have hgl := own_lt hown
    by_cases hlt : k < ns.length
    · obtain ⟨b, o, sv, nd, rfl, Hn, hbl, c0, c1, c2, c3, c4, hsv⟩ := hc.elem hb hlt
      have hnd : nd.set.length ≤ 1048576 := by have := hset k hlt; rw [Hn.out] at this; exact this
      have Hset : Hid (∀ i, i < ns.length → (ns.getD i .zero).set.length ≤ 1048576) := hset
      clear hset
      go_wp2_with (go_at_call 63; refine (toNode_ok _ _ _ _ _ _ _ hsv hnd).mono ?_; rintro e w2 ⟨sv', rfl, hr, hb2⟩; obtain ⟨ao', cap', rfl, hm', hc'⟩ := hr; have hown2 := ownsRow_below hown hb2; obtain ⟨u0, u1, u2, u3, u4, d0, d1, d2, d3, d4, f0, f1, f2, f3, f4⟩ := own_five hown2 hlt)
      go_roundw
      case rel =>
        refine ⟨k + 1, by omega, by go_num, ?_, _, upd S k (.slice ao' nd.set.length cap'), (((((hown2.stored _ _).1.stored _ _).1.stored _ _).1.stored _ _).1.stored _ _).1, filled_five (hfill.congr fun j hj => by simp only [nodeRow, upd_lt _ _ hj]) (by have := hown2.1; omega) (by rw [nodeRow, Hn.out, upd_same]), fun j hj => ?_⟩
        · iterate 5 refine Below.setCell ?_ (by simp) _
          exact below_step hb hb.size hb2
        · iterate 5 refine RangesAt.setCell ?_ (by simp <;> omega) _
          by_cases e : j = k
          · subst e
            rw [upd_same, Hn.out]
            exact RangesAt.mono ⟨_, _, rfl, hm', hc'⟩ (by omega)
          · rw [upd_lt _ _ (by omega)]
            exact (HS.out j (by omega)).below hb2
      case measure => simp [intOf]; omega
    · go_wp2
      have hkk : k = ns.length := by omega
      rw [hkk] at hfill HS
      refine bodyPost_ret (v := .slice (some ⟨w.heap.size, 0, none⟩) ns.length ns.length) (by simp [results, Tryd.results53, go_sem]) rfl ⟨_, rfl, ⟨_, _, rfl, hm, fun _ => ⟨w.heap.size, 0, rfl, Nat.le_refl _, hgl, fun i hi => ?_⟩⟩, hb⟩
      have e0 := filled_cell hown hfill (c := 0) hi (by omega)
      have e1 := filled_cell hown hfill (c := 1) hi (by omega)
      have e2 := filled_cell hown hfill (c := 2) hi (by omega)
      have e3 := filled_cell hown hfill (c := 3) hi (by omega)
      have e4 := filled_cell hown hfill (c := 4) hi (by omega)
      simp only [Nat.add_zero, Nat.zero_add] at e0 e1 e2 e3 e4 ⊢
      exact ⟨e0, ⟨_, e1, (HS.out i hi).mono (by omega)⟩, e2, e3, e4⟩

set_option maxRecDepth 100000 in
set_option maxHeartbeats 400000 in
theorem toBranch_ok {lo : Nat} (bol eol : Bool) (nv : Value) (ns : List NodeD) (w : World) (hs : NodesAt lo w nv ns) (hn : ns.length ≤ 1048576) (hset : ∀ i, i < ns.length → (ns.getD i .zero).set.length ≤ 1048576) :
    Calls Tryd.prog 30 #[.agg #[.bool bol, .bool eol, nv]] w fun e w' => ∃ nv', e = .returned (.agg #[.bool bol, .bool eol, nv']) ∧ NodesAt w.heap.size w' nv' ns ∧ Below w.heap.size w w' := by
  have Hset : Hid (∀ i, i < ns.length → (ns.getD i .zero).set.length ≤ 1048576) := hset
  clear hset
  go_enter Tryd.func30, Tryd.ntmps30
  go_wp2_with fail
  refine (toNodeS_ok (lo := lo) _ ns _ (hs.below ?_) hn Hset.out).mono ?_
  · exact (((Below.refl _ _).alloc (Nat.le_refl _) _).alloc (by simp) _).alloc (by simp; omega) _
  rintro e w2 ⟨sv', rfl, hr, hb⟩
  obtain ⟨ao', cap', rfl, hm', hc'⟩ := hr
  obtain ⟨hcc, hff⟩ := bcell hb
  have hz := hb.size
  simp only [World.size_alloc] at hc' hz
  have hr : NodesAt (w.heap.size + 1 + 1 + 1) w2 (.slice ao' ns.length cap') ns := ⟨_, _, rfl, hm', hc'⟩
  have hbb := (((((Below.refl w.heap.size w).alloc (Nat.le_refl _) _).alloc (by simp) _).alloc (by simp; omega) _).trans (hb.mono (by simp; omega)))
  clear hb
  go_wp2
  refine bodyPost_ret (v := .agg #[.bool bol, .bool eol, .slice ao' ns.length cap']) (by simp [results, Tryd.results30, go_sem, hcc]) rfl ⟨_, rfl, ?_, ?_⟩
  · refine NodesAt.mono (lo := w.heap.size + 1 + 1 + 1) ?_ (by omega)
    iterate 4 refine NodesAt.setCell ?_ (by simp) _
    exact hr
  · iterate 4 refine Below.setCell ?_ (by simp <;> omega) _
    exact hbb

/-- What is small enough to be copied. -/
def Small (bs : List BranchD) : Prop := bs.length ≤ 1048576 ∧ ∀ i, i < bs.length → (bs.getD i .zero).nodes.length ≤ 1048576 ∧ ∀ j, j < (bs.getD i .zero).nodes.length → ((bs.getD i .zero).nodes.getD j .zero).set.length ≤ 1048576

set_option maxRecDepth 100000 in
set_option maxHeartbeats 400000 in
theorem toBranchS_ok {lo : Nat} (v : Value) (ns : List BranchD) (w : World) (hs : BranchesAt lo w v ns) (hsm : Small ns) :
    Calls Tryd.prog 12 #[v] w fun e w' => ∃ v', e = .returned v' ∧ BranchesAt w.heap.size w' v' ns ∧ Below w.heap.size w w' := by
  obtain ⟨ao, cap, rfl, hm, hc⟩ := hs
  have hn := hsm.1
  obtain ⟨i0, hi, hz0, hz1, hz2⟩ := info_parts Tryd.infoBranch
  go_enter Tryd.func12, Tryd.ntmps12
  go_wp2_with (refine wpList_make_full _ rfl _ _ 27 rfl w.heap.size 37 i0 _ 3 Tryd.underlying27 hi hz0 hz1 _ _ _ _ ns.length rfl rfl rfl rfl (by rw [hz2]; omega) (by unfold maxLen; omega) (Nat.le_refl _) ?_; intro w1 hown hgrow)
  have hbw : Below w.heap.size w w1 := (Below.refl _ _).grown hgrow (Nat.le_refl _) (by intro k h; cases h)
  clear hgrow
  go_loopw [4] (fun i wr => ∃ k : Nat, k ≤ ns.length ∧ i = .int .i64 k ∧ Below w.heap.size w wr ∧ ∃ (xs : List Value) (S : Nat → Value), wr.ownsRow w.heap.size 37 3 (.slice (some ⟨w.heap.size, 0, none⟩) ns.length ns.length) ns.length xs ∧
      Filled xs 3 k (branchRow ns S) ∧ ∀ j, j < k → NodesAt (w.heap.size + 1) wr (S j) (ns.getD j .zero).nodes)
    (fun i _ => ns.length - (intOf i).toNat)
  case atStart => exact ⟨0, Nat.zero_le _, rfl, hbw, _, fun _ => .nilIface, hown, fun j hj => absurd hj (Nat.not_lt_zero _), fun j hj => absurd hj (Nat.not_lt_zero _)⟩
  case round =>
    obtain ⟨k, hk, rfl, hb, xs, S, hown, hfill, HS0⟩ := hrel
    have HS : Hid (∀ j, j < k → NodesAt (w.heap.size + 1) wr (S j) (ns.getD j .zero).nodes) := HS0
    clear HS0
    have hgl := own_lt hown
    by_cases hlt : k < ns.length
    · obtain ⟨b, o, nv, nd, rfl, Hn, hbl, c0, c1, c2, hsv⟩ := hc.elem hb hlt
      have hnd : nd.nodes.length ≤ 1048576 := by have := (hsm.2 k hlt).1; rw [Hn.out] at this; exact this
      have Hset : Hid (∀ j, j < nd.nodes.length → (nd.nodes.getD j .zero).set.length ≤ 1048576) := by have := (hsm.2 k hlt).2; rw [Hn.out] at this; exact this
      go_wp2_with (go_at_call 30; refine (toBranch_ok _ _ _ _ _ hsv hnd Hset.out).mono ?_; rintro e w2 ⟨sv', rfl, hr, hb2⟩; obtain ⟨ao', cap', rfl, hm', hc'⟩ := hr; have hown2 := ownsRow_below hown hb2; obtain ⟨u0, u1, u2, d0, d1, d2, f0, f1, f2⟩ := own_three hown2 hlt)
      go_roundw
      case rel =>
        refine ⟨k + 1, by omega, by go_num, ?_, _, upd S k (.slice ao' nd.nodes.length cap'), (((hown2.stored _ _).1.stored _ _).1.stored _ _).1, filled_three (hfill.congr fun j hj => by simp only [branchRow, upd_lt _ _ hj]) (by have := hown2.1; omega) (by rw [branchRow, Hn.out, upd_same]), fun j hj => ?_⟩
        · iterate 3 refine Below.setCell ?_ (by simp) _
          exact below_step hb hb.size hb2
        · iterate 3 refine NodesAt.setCell ?_ (by simp <;> omega) _
          by_cases e : j = k
          · subst e
            rw [upd_same, Hn.out]
            exact NodesAt.mono ⟨_, _, rfl, hm', hc'⟩ (by omega)
          · rw [upd_lt _ _ (by omega)]
            exact (HS.out j (by omega)).below hb2
      case measure => simp [intOf]; omega
    · go_wp2
      have hkk : k = ns.length := by omega
      rw [hkk] at hfill HS
      refine bodyPost_ret (v := .slice (some ⟨w.heap.size, 0, none⟩) ns.length ns.length) (by simp [results, Tryd.results12, go_sem]) rfl ⟨_, rfl, ⟨_, _, rfl, hm, fun _ => ⟨w.heap.size, 0, rfl, Nat.le_refl _, hgl, fun i hi => ?_⟩⟩, hb⟩
      have e0 := filled_cell hown hfill (c := 0) hi (by omega)
      have e1 := filled_cell hown hfill (c := 1) hi (by omega)
      have e2 := filled_cell hown hfill (c := 2) hi (by omega)
      simp only [Nat.add_zero, Nat.zero_add] at e0 e1 e2 ⊢
      exact ⟨e0, e1, ⟨_, e2, (HS.out i hi).mono (by omega)⟩⟩

set_option maxRecDepth 100000 in
set_option maxHeartbeats 400000 in
theorem toRule_ok {lo : Nat} (g : Int) (bv : Value) (bs : List BranchD) (w : World) (hs : BranchesAt lo w bv bs) (hsm : Small bs) :
    Calls Tryd.prog 6 #[.agg #[bv, .int .i64 g]] w fun e w' => ∃ bv', e = .returned (.agg #[bv', .int .i64 g]) ∧ BranchesAt w.heap.size w' bv' bs ∧ Below w.heap.size w w' := by
  go_enter Tryd.func6, Tryd.ntmps6
  go_wp2_with fail
  refine (toBranchS_ok (lo := lo) _ bs _ (hs.below ?_) hsm).mono ?_
  · exact (((Below.refl _ _).alloc (Nat.le_refl _) _).alloc (by simp) _).alloc (by simp; omega) _
  rintro e w2 ⟨sv', rfl, hr, hb⟩
  obtain ⟨ao', cap', rfl, hm', hc'⟩ := hr
  obtain ⟨hcc, hff⟩ := bcell hb
  have hz := hb.size
  simp only [World.size_alloc] at hc' hz
  have hr : BranchesAt (w.heap.size + 1 + 1 + 1) w2 (.slice ao' bs.length cap') bs := ⟨_, _, rfl, hm', hc'⟩
  have hbb := (((((Below.refl w.heap.size w).alloc (Nat.le_refl _) _).alloc (by simp) _).alloc (by simp; omega) _).trans (hb.mono (by simp; omega)))
  clear hb
  go_wp2
  refine bodyPost_ret (v := .agg #[.slice ao' bs.length cap', .int .i64 g]) (by simp [results, Tryd.results6, go_sem, hcc]) rfl ⟨_, rfl, ?_, ?_⟩
  · refine BranchesAt.mono (lo := w.heap.size + 1 + 1 + 1) ?_ (by omega)
    iterate 4 refine BranchesAt.setCell ?_ (by simp) _
    exact hr
  · iterate 4 refine Below.setCell ?_ (by simp <;> omega) _
    exact hbb
end Go.Proofs.YthgaeaihfbiolaaDoor
