import Derived.Test.YtgbdlgogccgciaaGreatDoorJoinStk
namespace Go.Proofs.YtgbdlgogccgciaaGreatDoor
open Go.RowKit
attribute [local go_sem ↓] Go.wp_at_zero Go.wp_at_succ

theorem Tryz.infoPart : (Tryz.prog.info? 116).map (fun i => (i.zero, i.size, i.bytes)) = some (some .nilIface, 1, 16) := by kernel_rfl

theorem node_two {k mn mx g : Int} {rs : List (Int × Int)} (h : nodeB ⟨k, rs, mn, mx, g⟩ = true) (hk : k = 2 ∨ k = 3) : rs = [] ∧ mn = 0 ∧ mx = 0 ∧ g = 0 := by
  unfold nodeB at h
  rw [if_neg (by simp only; omega), if_pos hk] at h
  simp at h
  exact ⟨h.1.1, h.1.2.1, h.1.2.2, h.2⟩

theorem node_one {mn mx g : Int} {rs : List (Int × Int)} (h : nodeB ⟨1, rs, mn, mx, g⟩ = true) : rangesOK 0 rs = true ∧ mn = 0 ∧ mx = 0 ∧ g = 0 := by
  simp [nodeB] at h
  exact ⟨h.1.1, h.1.2.1, h.1.2.2, h.2⟩
theorem node_four {mn mx g : Int} {rs : List (Int × Int)} (h : nodeB ⟨4, rs, mn, mx, g⟩ = true) : rs = [] ∧ boundsB mn mx = true ∧ g = 0 := by
  simp [nodeB] at h
  exact ⟨h.1.1, h.1.2, h.2⟩
theorem node_five {mn mx g : Int} {rs : List (Int × Int)} (h : nodeB ⟨5, rs, mn, mx, g⟩ = true) : rs = [] ∧ mn = 0 ∧ mx = 0 := by
  simp [nodeB] at h
  exact ⟨h.1, h.2.1, h.2.2⟩
theorem node_kind {k mn mx g : Int} {rs : List (Int × Int)} (h : nodeB ⟨k, rs, mn, mx, g⟩ = true) : k = 1 ∨ k = 2 ∨ k = 3 ∨ k = 4 ∨ k = 5 := by
  unfold nodeB at h
  by_cases h1 : k = 1
  · exact .inl h1
  by_cases h2 : k = 2
  · exact .inr (.inl h2)
  by_cases h3 : k = 3
  · exact .inr (.inr (.inl h3))
  by_cases h4 : k = 4
  · exact .inr (.inr (.inr (.inl h4)))
  by_cases h5 : k = 5
  · exact .inr (.inr (.inr (.inr h5)))
  simp [h1, h2, h3, h4, h5] at h

theorem lift_next {ns : List NodeD} {k m ar : Nat} {st : List Int} {xs : List Value} {nd : NodeD} {t : TypeId} {x : Value} {a : Int} {w5 : World} {B g' cap' : Nat} (hst : st.length = m + ar) (har : arity nd.kind = ar) (ha : wnode nd (st.drop m) = a) (hp : IsPart (k + 1) (.iface t x) a)
    (hparts : Parts k xs st) (hdk : st.length ≤ k) (hown5 : w5.ownsRow B 116 1 (.slice (some ⟨g', 0, none⟩) (m + 1) cap') (m + 1) (xs.take m ++ [.iface t x])) (HS : liftW ns [] = liftW (ns.drop k) st) (HD : liftW (ns.drop k) st = liftW (ns.drop (k + 1)) (wstep st nd)) :
    ∃ (st' : List Int) (xs' : List Value), m + 1 = st'.length ∧ w5.ownsRow B 116 1 (.slice (some ⟨g', 0, none⟩) st'.length cap') st'.length xs' ∧ Parts (k + 1) xs' st' ∧ st'.length ≤ k + 1 ∧ Hid (liftW ns [] = liftW (ns.drop (k + 1)) st') := by
  have hw : wstep st nd = st.take m ++ [a] := by
    unfold wstep
    rw [har, hst, Nat.add_sub_cancel, ha]
  have hl : (st.take m ++ [a]).length = m + 1 := by simp; omega
  refine ⟨st.take m ++ [a], xs.take m ++ [.iface t x], hl.symm, by rw [hl]; exact hown5, (hparts.mono (Nat.le_succ k)).push m (by omega) hp, by omega, ?_⟩
  show _ = _
  rw [HS, HD, hw]

theorem drop_two (st : List Int) (m : Nat) : (st.drop m).getD 0 0 = st.getD m 0 ∧ (st.drop m).getD 1 0 = st.getD (m + 1) 0 := by
  simp [List.getD_eq_getElem?_getD, List.getElem?_drop]
theorem drop_one (st : List Int) (m : Nat) : (st.drop m).getD 0 0 = st.getD m 0 := by
  simp [List.getD_eq_getElem?_getD, List.getElem?_drop]

set_option maxRecDepth 100000 in
set_option maxHeartbeats 4000000 in
theorem lift_ok {lo : Nat} (v : Value) (ns : List NodeD) (w : World) (hs : NodesAt lo w v ns) (hn : ns.length ≤ 1048576) :
    Calls Tryz.prog 55 #[v] w fun e w' => Below w.heap.size w w' ∧ ((liftF ns = none ∧ e = .returned (.tuple #[.nilIface, .bool false])) ∨ ∃ wt t x N, liftF ns = some wt ∧ e = .returned (.tuple #[.iface t x, .bool true]) ∧ IsPart N (.iface t x) wt) := by
  obtain ⟨ao, cap, rfl, hm, hc⟩ := hs
  obtain ⟨i0, hi, hz0, hz1, hz2⟩ := info_parts Tryz.infoPart
  go_enter Tryz.func55, Tryz.ntmps55
  go_wp2
  go_loopw [4, 12] (fun s i wr => ∃ (k : Nat) (st : List Int) (g sc : Nat) (xs : List Value), k ≤ ns.length ∧ i = .int .i64 k ∧ s = .slice (some ⟨g, 0, none⟩) st.length sc ∧ Below w.heap.size w wr ∧ wr.ownsRow w.heap.size 116 1 (.slice (some ⟨g, 0, none⟩) st.length sc) st.length xs ∧ Parts k xs st ∧ st.length ≤ k ∧ Hid (liftW ns [] = liftW (ns.drop k) st))
    (fun _ i _ => ns.length - (intOf i).toNat)
  case atStart => exact ⟨0, [], _, _, [], Nat.zero_le _, rfl, rfl, (Below.refl _ _).alloc (Nat.le_refl _) _, ownsRow_new _ _, ⟨rfl, fun j hj => absurd hj (Nat.not_lt_zero _)⟩, Nat.le_refl _, rfl⟩
  case round =>
    obtain ⟨k, st, g, sc, xs, hk, rfl, rfl, hb, hown, hparts, hdk, HS⟩ := hrel
    obtain ⟨hgB, hgl, hdc, hcm⟩ := own_form hown
    unfold maxLen at hcm
    by_cases hlt : k < ns.length
    · obtain ⟨b, o, sv, nd, rfl, Hn, hbl, c0, c1, c2, c3, c4, hsv⟩ := hc.elem hb hlt
      have HD : Hid _ := liftW_drop ns k hlt st nd Hn.out
      obtain ⟨kd, rs, mn, mx, gr⟩ := nd
      simp only at c0 c2 c3 c4 hsv
      obtain ⟨sao, scp, rfl, hsm, hsc⟩ := hsv
      have hz := hb.size
      have hba : Below w.heap.size w (wr.alloc (.cells #[.int .i64 kd, .slice sao rs.length scp, .int .i64 mn, .int .i64 mx, .int .i64 gr] 67)) := hb.alloc hz _
      have hsva : RangesAt lo (wr.alloc (.cells #[.int .i64 kd, .slice sao rs.length scp, .int .i64 mn, .int .i64 mx, .int .i64 gr] 67)) (.slice sao rs.length scp) rs := RangesAt.below ⟨_, _, rfl, hsm, hsc⟩ ((Below.refl _ _).alloc (Nat.le_refl _) _)
      have hal := arity_le kd
      by_cases har : st.length < arity kd
      · have hneg : (st.length : Int) - (arity kd : Int) < 0 := by omega
        go_wp2_with (go_at_call 77; refine (operands_ok _ _).mono ?_; rintro e w2 ⟨rfl, rfl⟩)
        go_ret2
        exact ⟨hba, .inl ⟨by unfold liftF; rw [HS.out, HD.out, if_pos (.inl har)], rfl⟩⟩
      have hnn : ¬ ((st.length : Int) - (arity kd : Int) < 0) := by omega
      by_cases hnb : nodeB ⟨kd, rs, mn, mx, gr⟩ = false
      · go_wp2_with (first | (go_at_call 77; refine (operands_ok _ _).mono ?_; rintro e w2 ⟨rfl, rfl⟩) | (go_at_call 78; refine (fieldsOK_ok _ _ _ _ _ _ _ hsva).mono ?_; rintro e w3 ⟨rfl, hb3⟩))
        go_ret2
        exact ⟨below_step hba hba.size hb3, .inl ⟨by unfold liftF; rw [HS.out, HD.out, if_pos (.inr hnb)], rfl⟩⟩
      have hnt : nodeB ⟨kd, rs, mn, mx, gr⟩ = true := by simpa using hnb
      clear hnb
      have HD2 : Hid (liftW (ns.drop k) st = liftW (ns.drop (k + 1)) (wstep st ⟨kd, rs, mn, mx, gr⟩)) := by show _ = _; rw [HD.out, if_neg (by rintro (h | h); exact har h; rw [h] at hnt; cases hnt)]
      clear HD
      by_cases hk2 : kd = 2
      · obtain ⟨hr0, rfl, rfl, rfl⟩ := node_two hnt (.inl hk2)
        subst hk2 hr0
        obtain ⟨m, hm2⟩ : ∃ m, st.length = m + 2 := ⟨st.length - 2, by have : arity 2 = 2 := rfl; omega⟩
        have HM : Hid _ := hm2
        rw [hm2] at hown hdc hdk ⊢
        clear hm2
        go_wp2_with (first | (go_at_call 77; refine (operands_ok _ _).mono ?_; rintro e w2 ⟨rfl, rfl⟩; rw [show arity 2 = 2 from rfl]) | (go_at_call 78; refine (fieldsOK_ok _ _ _ _ _ _ _ hsva).mono ?_; rintro e w3 ⟨rfl, hb3⟩))
        have hown3 := ownsRow_below (hown.alloc _) hb3
        have hz3 := hb3.size
        have hvar : wr.heap.size < w3.heap.size := Nat.lt_of_lt_of_le (by simp) hz3
        have hbb3 := below_step hba hba.size hb3
        obtain ⟨t0, x0, hx0, hp0⟩ := hparts.2 m (by have := HM.out; omega)
        obtain ⟨t1, x1, hx1, hp1⟩ := hparts.2 (m + 1) (by have := HM.out; omega)
        have q0 : w3.cell? ⟨g, m, none⟩ = some (.iface t0 x0) := (hown3.cellAt m (by omega)).trans hx0
        have q1 : w3.cell? ⟨g, m + 1, none⟩ = some (.iface t1 x1) := (hown3.cellAt (m + 1) (by omega)).trans hx1
        clear hx0 hx1
        have e0 : w3.cell? ⟨wr.heap.size, 0, none⟩ = some (.int .i64 2) := (hb3.cell (by simp)).trans (by simp)
        have e1 : w3.cell? ⟨wr.heap.size, 1, none⟩ = some (.slice sao 0 scp) := (hb3.cell (by simp)).trans (by simp)
        have e2 : w3.cell? ⟨wr.heap.size, 2, none⟩ = some (.int .i64 0) := (hb3.cell (by simp)).trans (by simp)
        have e3 : w3.cell? ⟨wr.heap.size, 3, none⟩ = some (.int .i64 0) := (hb3.cell (by simp)).trans (by simp)
        have e4 : w3.cell? ⟨wr.heap.size, 4, none⟩ = some (.int .i64 0) := (hb3.cell (by simp)).trans (by simp)
        have i1 : (0 : Int) ≤ (m : Int) := by omega
        have i2 : (m : Int) ≤ ((m + 2 : Nat) : Int) := by omega
        have i2' : (m : Int) ≤ (m : Int) + 2 := by omega
        have i3 : ((m + 2 : Nat) : Int) ≤ (sc : Int) := by omega
        have i4 : (m : Int) + 2 ≤ (sc : Int) := by omega
        have i5 : (m : Int) ≤ (sc : Int) := by omega
        have i6 : ¬ sc = m := by omega
        go_region_held3 (fun w' => w'.cell? ⟨wr.heap.size, 0, none⟩ = some (.int .i64 2) ∧ w'.cell? ⟨wr.heap.size, 1, none⟩ = some (.slice sao 0 scp) ∧ w'.cell? ⟨wr.heap.size, 2, none⟩ = some (.int .i64 0) ∧ w'.cell? ⟨wr.heap.size, 3, none⟩ = some (.int .i64 0) ∧ w'.cell? ⟨wr.heap.size, 4, none⟩ = some (.int .i64 0)) ((first | go_keep | exact ⟨(hb4.cell (by exact hvar)).trans e0, (hb4.cell (by exact hvar)).trans e1, (hb4.cell (by exact hvar)).trans e2, (hb4.cell (by exact hvar)).trans e3, (hb4.cell (by exact hvar)).trans e4⟩)) ((go_at_call 79; refine (join_seq _ _ _ _ _ g m (sc - m) w3.drew (by exact q0) (by exact q1)).mono ?_; rintro e w4 ⟨rfl, hb4⟩))
        have hown4 := ownsRow_take (ownsRow_below (w := w3.drew) hown3 hb4) (show m ≤ m + 2 by omega)
        have hbb4 := below_step hbb3.drew hbb3.size hb4
        go_wp2_with (refine wpList_append_one w4 rfl (.tmp 36) (.tmp 38) 75 rfl w.heap.size 116 i0 _ 16 Tryz.underlying75 hi hz0 hz1 hz2 rfl g sc m (xs.take m) _ rfl hown4 rfl rfl (by omega) (by omega) hbb4.size ?_; intro g' cap' w5 hown5 hgrow5 hat)
        go_roundw
        case rel =>
          obtain ⟨st', xs', hl, h1, h2, h3, h4⟩ := lift_next (nd := ⟨2, [], 0, 0, 0⟩) HM.out rfl rfl (show IsPart (k + 1) _ (wnode ⟨2, [], 0, 0, 0⟩ (st.drop m)) by unfold wnode; rw [if_neg (by decide), if_pos (by decide), (drop_two st m).1, (drop_two st m).2]; exact .inr (.inl ⟨_, _, _, _, rfl, hp0, hp1, rfl⟩)) hparts (by have := HM.out; omega) hown5 HS.out HD2.out
          exact ⟨k + 1, st', g', cap', xs', by omega, by go_num, by rw [hl], hbb4.grown hgrow5 hbb4.size (by intro q hq; cases hq; exact hgB), h1, h2, h3, h4⟩
        case measure => simp [intOf]; omega
      by_cases hk3 : kd = 3
      · obtain ⟨hr0, rfl, rfl, rfl⟩ := node_two hnt (.inr hk3)
        subst hk3 hr0
        obtain ⟨m, hm2⟩ : ∃ m, st.length = m + 2 := ⟨st.length - 2, by have : arity 3 = 2 := rfl; omega⟩
        have HM : Hid _ := hm2
        rw [hm2] at hown hdc hdk ⊢
        clear hm2
        go_wp2_with (first | (go_at_call 77; refine (operands_ok _ _).mono ?_; rintro e w2 ⟨rfl, rfl⟩; rw [show arity 3 = 2 from rfl]) | (go_at_call 78; refine (fieldsOK_ok _ _ _ _ _ _ _ hsva).mono ?_; rintro e w3 ⟨rfl, hb3⟩))
        have hown3 := ownsRow_below (hown.alloc _) hb3
        have hz3 := hb3.size
        have hvar : wr.heap.size < w3.heap.size := Nat.lt_of_lt_of_le (by simp) hz3
        have hbb3 := below_step hba hba.size hb3
        obtain ⟨t0, x0, hx0, hp0⟩ := hparts.2 m (by have := HM.out; omega)
        obtain ⟨t1, x1, hx1, hp1⟩ := hparts.2 (m + 1) (by have := HM.out; omega)
        have q0 : w3.cell? ⟨g, m, none⟩ = some (.iface t0 x0) := (hown3.cellAt m (by omega)).trans hx0
        have q1 : w3.cell? ⟨g, m + 1, none⟩ = some (.iface t1 x1) := (hown3.cellAt (m + 1) (by omega)).trans hx1
        clear hx0 hx1
        have e0 : w3.cell? ⟨wr.heap.size, 0, none⟩ = some (.int .i64 3) := (hb3.cell (by simp)).trans (by simp)
        have e1 : w3.cell? ⟨wr.heap.size, 1, none⟩ = some (.slice sao 0 scp) := (hb3.cell (by simp)).trans (by simp)
        have e2 : w3.cell? ⟨wr.heap.size, 2, none⟩ = some (.int .i64 0) := (hb3.cell (by simp)).trans (by simp)
        have e3 : w3.cell? ⟨wr.heap.size, 3, none⟩ = some (.int .i64 0) := (hb3.cell (by simp)).trans (by simp)
        have e4 : w3.cell? ⟨wr.heap.size, 4, none⟩ = some (.int .i64 0) := (hb3.cell (by simp)).trans (by simp)
        have i1 : (0 : Int) ≤ (m : Int) := by omega
        have i2 : (m : Int) ≤ ((m + 2 : Nat) : Int) := by omega
        have i2' : (m : Int) ≤ (m : Int) + 2 := by omega
        have i3 : ((m + 2 : Nat) : Int) ≤ (sc : Int) := by omega
        have i4 : (m : Int) + 2 ≤ (sc : Int) := by omega
        have i5 : (m : Int) ≤ (sc : Int) := by omega
        have i6 : ¬ sc = m := by omega
        go_region_held3 (fun w' => w'.cell? ⟨wr.heap.size, 0, none⟩ = some (.int .i64 3) ∧ w'.cell? ⟨wr.heap.size, 1, none⟩ = some (.slice sao 0 scp) ∧ w'.cell? ⟨wr.heap.size, 2, none⟩ = some (.int .i64 0) ∧ w'.cell? ⟨wr.heap.size, 3, none⟩ = some (.int .i64 0) ∧ w'.cell? ⟨wr.heap.size, 4, none⟩ = some (.int .i64 0)) ((first | go_keep | exact ⟨(hb4.cell (by exact hvar)).trans e0, (hb4.cell (by exact hvar)).trans e1, (hb4.cell (by exact hvar)).trans e2, (hb4.cell (by exact hvar)).trans e3, (hb4.cell (by exact hvar)).trans e4⟩)) ((go_at_call 79; refine (join_alt _ _ _ _ _ g m (sc - m) w3.drew (by exact q0) (by exact q1)).mono ?_; rintro e w4 ⟨rfl, hb4⟩))
        have hown4 := ownsRow_take (ownsRow_below (w := w3.drew) hown3 hb4) (show m ≤ m + 2 by omega)
        have hbb4 := below_step hbb3.drew hbb3.size hb4
        go_wp2_with (refine wpList_append_one w4 rfl (.tmp 36) (.tmp 38) 75 rfl w.heap.size 116 i0 _ 16 Tryz.underlying75 hi hz0 hz1 hz2 rfl g sc m (xs.take m) _ rfl hown4 rfl rfl (by omega) (by omega) hbb4.size ?_; intro g' cap' w5 hown5 hgrow5 hat)
        go_roundw
        case rel =>
          obtain ⟨st', xs', hl, h1, h2, h3, h4⟩ := lift_next (nd := ⟨3, [], 0, 0, 0⟩) HM.out rfl rfl (show IsPart (k + 1) _ (wnode ⟨3, [], 0, 0, 0⟩ (st.drop m)) by unfold wnode; rw [if_neg (by decide), if_pos (by decide), (drop_two st m).1, (drop_two st m).2]; exact .inr (.inr (.inl ⟨_, _, _, _, rfl, hp0, hp1, rfl⟩))) hparts (by have := HM.out; omega) hown5 HS.out HD2.out
          exact ⟨k + 1, st', g', cap', xs', by omega, by go_num, by rw [hl], hbb4.grown hgrow5 hbb4.size (by intro q hq; cases hq; exact hgB), h1, h2, h3, h4⟩
        case measure => simp [intOf]; omega
      by_cases hk5 : kd = 5
      · subst hk5
        obtain ⟨hr0, rfl, rfl⟩ := node_five hnt
        subst hr0
        obtain ⟨m, hm2⟩ : ∃ m, st.length = m + 1 := ⟨st.length - 1, by have : arity 5 = 1 := rfl; omega⟩
        have HM : Hid _ := hm2
        rw [hm2] at hown hdc hdk ⊢
        clear hm2
        go_wp2_with (first | (go_at_call 77; refine (operands_ok _ _).mono ?_; rintro e w2 ⟨rfl, rfl⟩; rw [show arity 5 = 1 from rfl]) | (go_at_call 78; refine (fieldsOK_ok _ _ _ _ _ _ _ hsva).mono ?_; rintro e w3 ⟨rfl, hb3⟩))
        have hown3 := ownsRow_below (hown.alloc _) hb3
        have hz3 := hb3.size
        have hvar : wr.heap.size < w3.heap.size := Nat.lt_of_lt_of_le (by simp) hz3
        have hbb3 := below_step hba hba.size hb3
        obtain ⟨t0, x0, hx0, hp0⟩ := hparts.2 m (by have := HM.out; omega)
        have q0 : w3.cell? ⟨g, m, none⟩ = some (.iface t0 x0) := (hown3.cellAt m (by omega)).trans hx0
        clear hx0
        have e0 : w3.cell? ⟨wr.heap.size, 0, none⟩ = some (.int .i64 5) := (hb3.cell (by simp)).trans (by simp)
        have e1 : w3.cell? ⟨wr.heap.size, 1, none⟩ = some (.slice sao 0 scp) := (hb3.cell (by simp)).trans (by simp)
        have e2 : w3.cell? ⟨wr.heap.size, 2, none⟩ = some (.int .i64 0) := (hb3.cell (by simp)).trans (by simp)
        have e3 : w3.cell? ⟨wr.heap.size, 3, none⟩ = some (.int .i64 0) := (hb3.cell (by simp)).trans (by simp)
        have e4 : w3.cell? ⟨wr.heap.size, 4, none⟩ = some (.int .i64 gr) := (hb3.cell (by simp)).trans (by simp)
        have i1 : (0 : Int) ≤ (m : Int) := by omega
        have i2 : (m : Int) ≤ ((m + 1 : Nat) : Int) := by omega
        have i2' : (m : Int) ≤ (m : Int) + 1 := by omega
        have i3 : ((m + 1 : Nat) : Int) ≤ (sc : Int) := by omega
        have i4 : (m : Int) + 1 ≤ (sc : Int) := by omega
        have i5 : (m : Int) ≤ (sc : Int) := by omega
        have i6 : ¬ sc = m := by omega
        go_region_held3 (fun w' => w'.cell? ⟨wr.heap.size, 0, none⟩ = some (.int .i64 5) ∧ w'.cell? ⟨wr.heap.size, 1, none⟩ = some (.slice sao 0 scp) ∧ w'.cell? ⟨wr.heap.size, 2, none⟩ = some (.int .i64 0) ∧ w'.cell? ⟨wr.heap.size, 3, none⟩ = some (.int .i64 0) ∧ w'.cell? ⟨wr.heap.size, 4, none⟩ = some (.int .i64 gr)) ((first | go_keep | exact ⟨(hb4.cell (by exact hvar)).trans e0, (hb4.cell (by exact hvar)).trans e1, (hb4.cell (by exact hvar)).trans e2, (hb4.cell (by exact hvar)).trans e3, (hb4.cell (by exact hvar)).trans e4⟩)) ((go_at_call 79; refine (join_grp _ _ _ _ g m (sc - m) w3.drew (by exact q0)).mono ?_; rintro e w4 ⟨rfl, hb4⟩))
        have hown4 := ownsRow_take (ownsRow_below (w := w3.drew) hown3 hb4) (show m ≤ m + 1 by omega)
        have hbb4 := below_step hbb3.drew hbb3.size hb4
        go_wp2_with (refine wpList_append_one w4 rfl (.tmp 36) (.tmp 38) 75 rfl w.heap.size 116 i0 _ 16 Tryz.underlying75 hi hz0 hz1 hz2 rfl g sc m (xs.take m) _ rfl hown4 rfl rfl (by omega) (by omega) hbb4.size ?_; intro g' cap' w5 hown5 hgrow5 hat)
        go_roundw
        case rel =>
          obtain ⟨st', xs', hl, h1, h2, h3, h4⟩ := lift_next (nd := ⟨5, [], 0, 0, gr⟩) HM.out rfl rfl (show IsPart (k + 1) _ (wnode ⟨5, [], 0, 0, gr⟩ (st.drop m)) by unfold wnode; rw [if_neg (by simp), if_neg (by simp), if_neg (by simp), drop_one]; exact .inr (.inr (.inr (.inr ⟨_, _, rfl, hp0⟩)))) hparts (by have := HM.out; omega) hown5 HS.out HD2.out
          exact ⟨k + 1, st', g', cap', xs', by omega, by go_num, by rw [hl], hbb4.grown hgrow5 hbb4.size (by intro q hq; cases hq; exact hgB), h1, h2, h3, h4⟩
        case measure => simp [intOf]; omega
      by_cases hk4 : kd = 4
      · subst hk4
        obtain ⟨hr0, hbd, rfl⟩ := node_four hnt
        subst hr0
        have HB : Hid _ := hbd
        clear hbd
        obtain ⟨m, hm2⟩ : ∃ m, st.length = m + 1 := ⟨st.length - 1, by have : arity 4 = 1 := rfl; omega⟩
        have HM : Hid _ := hm2
        rw [hm2] at hown hdc hdk ⊢
        clear hm2
        go_wp2_with (first | (go_at_call 77; refine (operands_ok _ _).mono ?_; rintro e w2 ⟨rfl, rfl⟩; rw [show arity 4 = 1 from rfl]) | (go_at_call 78; refine (fieldsOK_ok _ _ _ _ _ _ _ hsva).mono ?_; rintro e w3 ⟨rfl, hb3⟩))
        have hown3 := ownsRow_below (hown.alloc _) hb3
        have hz3 := hb3.size
        have hvar : wr.heap.size < w3.heap.size := Nat.lt_of_lt_of_le (by simp) hz3
        have hbb3 := below_step hba hba.size hb3
        obtain ⟨t0, x0, hx0, hp0⟩ := hparts.2 m (by have := HM.out; omega)
        have q0 : w3.cell? ⟨g, m, none⟩ = some (.iface t0 x0) := (hown3.cellAt m (by omega)).trans hx0
        clear hx0
        have e0 : w3.cell? ⟨wr.heap.size, 0, none⟩ = some (.int .i64 4) := (hb3.cell (by simp)).trans (by simp)
        have e1 : w3.cell? ⟨wr.heap.size, 1, none⟩ = some (.slice sao 0 scp) := (hb3.cell (by simp)).trans (by simp)
        have e2 : w3.cell? ⟨wr.heap.size, 2, none⟩ = some (.int .i64 mn) := (hb3.cell (by simp)).trans (by simp)
        have e3 : w3.cell? ⟨wr.heap.size, 3, none⟩ = some (.int .i64 mx) := (hb3.cell (by simp)).trans (by simp)
        have e4 : w3.cell? ⟨wr.heap.size, 4, none⟩ = some (.int .i64 0) := (hb3.cell (by simp)).trans (by simp)
        have i1 : (0 : Int) ≤ (m : Int) := by omega
        have i2 : (m : Int) ≤ ((m + 1 : Nat) : Int) := by omega
        have i2' : (m : Int) ≤ (m : Int) + 1 := by omega
        have i3 : ((m + 1 : Nat) : Int) ≤ (sc : Int) := by omega
        have i4 : (m : Int) + 1 ≤ (sc : Int) := by omega
        have i5 : (m : Int) ≤ (sc : Int) := by omega
        have i6 : ¬ sc = m := by omega
        go_region_held3 (fun w' => w'.cell? ⟨wr.heap.size, 0, none⟩ = some (.int .i64 4) ∧ w'.cell? ⟨wr.heap.size, 1, none⟩ = some (.slice sao 0 scp) ∧ w'.cell? ⟨wr.heap.size, 2, none⟩ = some (.int .i64 mn) ∧ w'.cell? ⟨wr.heap.size, 3, none⟩ = some (.int .i64 mx) ∧ w'.cell? ⟨wr.heap.size, 4, none⟩ = some (.int .i64 0)) ((first | go_keep | exact ⟨(hb4.cell (by exact hvar)).trans e0, (hb4.cell (by exact hvar)).trans e1, (hb4.cell (by exact hvar)).trans e2, (hb4.cell (by exact hvar)).trans e3, (hb4.cell (by exact hvar)).trans e4⟩)) ((go_at_call 79; refine (join_rep _ _ k _ mn mx g m (sc - m) w3.drew (by exact q0) hp0 HB.out).mono ?_; rintro e w4 ⟨t4, x4, rfl, hp4, hb4⟩))
        have hown4 := ownsRow_take (ownsRow_below (w := w3.drew) hown3 hb4) (show m ≤ m + 1 by omega)
        have hbb4 := below_step hbb3.drew hbb3.size hb4
        go_wp2_with (refine wpList_append_one w4 rfl (.tmp 36) (.tmp 38) 75 rfl w.heap.size 116 i0 _ 16 Tryz.underlying75 hi hz0 hz1 hz2 rfl g sc m (xs.take m) _ rfl hown4 rfl rfl (by omega) (by omega) hbb4.size ?_; intro g' cap' w5 hown5 hgrow5 hat)
        go_roundw
        case rel =>
          obtain ⟨st', xs', hl, h1, h2, h3, h4⟩ := lift_next (nd := ⟨4, [], mn, mx, 0⟩) HM.out rfl rfl (show IsPart (k + 1) _ (wnode ⟨4, [], mn, mx, 0⟩ (st.drop m)) by unfold wnode; rw [if_neg (by simp), if_neg (by simp), if_pos (by simp), drop_one]; exact hp4) hparts (by have := HM.out; omega) hown5 HS.out HD2.out
          exact ⟨k + 1, st', g', cap', xs', by omega, by go_num, by rw [hl], hbb4.grown hgrow5 hbb4.size (by intro q hq; cases hq; exact hgB), h1, h2, h3, h4⟩
        case measure => simp [intOf]; omega
      have hk1 : kd = 1 := by rcases node_kind hnt with h | h | h | h | h <;> omega
      · subst hk1
        obtain ⟨hr0, rfl, rfl, rfl⟩ := node_one hnt
        have HR : Hid _ := hr0
        clear hr0 hk2 hk3 hk4 hk5
        obtain ⟨m, hm2⟩ : ∃ m, st.length = m + 0 := ⟨st.length - 0, by have : arity 1 = 0 := rfl; omega⟩
        have HM : Hid _ := hm2
        rw [hm2] at hown hdc hdk ⊢
        clear hm2
        by_cases hcm1 : m = sc
        · subst hcm1
          go_wp2_with (first | (go_at_call 77; refine (operands_ok _ _).mono ?_; rintro e w2 ⟨rfl, rfl⟩; rw [show arity 1 = 0 from rfl]) | (go_at_call 78; refine (fieldsOK_ok _ _ _ _ _ _ _ hsva).mono ?_; rintro e w3 ⟨rfl, hb3⟩))
          have hown3 := ownsRow_below (hown.alloc _) hb3
          have hz3 := hb3.size
          have hvar : wr.heap.size < w3.heap.size := Nat.lt_of_lt_of_le (by simp) hz3
          have hbb3 := below_step hba hba.size hb3
          have e0 : w3.cell? ⟨wr.heap.size, 0, none⟩ = some (.int .i64 1) := (hb3.cell (by simp)).trans (by simp)
          have e1 : w3.cell? ⟨wr.heap.size, 1, none⟩ = some (.slice sao rs.length scp) := (hb3.cell (by simp)).trans (by simp)
          have e2 : w3.cell? ⟨wr.heap.size, 2, none⟩ = some (.int .i64 0) := (hb3.cell (by simp)).trans (by simp)
          have e3 : w3.cell? ⟨wr.heap.size, 3, none⟩ = some (.int .i64 0) := (hb3.cell (by simp)).trans (by simp)
          have e4 : w3.cell? ⟨wr.heap.size, 4, none⟩ = some (.int .i64 0) := (hb3.cell (by simp)).trans (by simp)
          have hq1 : RangesAt lo w3.drew (.slice sao rs.length scp) rs := hsva.below hb3.drew
          have i1 : (0 : Int) ≤ (m : Int) := by omega
          have i2 : (m : Int) ≤ ((m + 0 : Nat) : Int) := by omega
          have i2' : (m : Int) ≤ (m : Int) + 0 := by omega
          have i3 : ((m + 0 : Nat) : Int) ≤ (m : Int) := by omega
          have i4 : (m : Int) + 0 ≤ (m : Int) := by omega
          have i5 : (m : Int) ≤ (m : Int) := by omega
          go_region_held3 (fun w' => w'.cell? ⟨wr.heap.size, 0, none⟩ = some (.int .i64 1) ∧ w'.cell? ⟨wr.heap.size, 1, none⟩ = some (.slice sao rs.length scp) ∧ w'.cell? ⟨wr.heap.size, 2, none⟩ = some (.int .i64 0) ∧ w'.cell? ⟨wr.heap.size, 3, none⟩ = some (.int .i64 0) ∧ w'.cell? ⟨wr.heap.size, 4, none⟩ = some (.int .i64 0)) ((first | go_keep | exact ⟨(hb4.cell (by exact hvar)).trans e0, (hb4.cell (by exact hvar)).trans e1, (hb4.cell (by exact hvar)).trans e2, (hb4.cell (by exact hvar)).trans e3, (hb4.cell (by exact hvar)).trans e4⟩)) ((go_at_call 79; refine (join_set _ _ _ _ (hq1) HR.out).mono ?_; rintro e w4 ⟨mg, rfl, hmg, hmr, hb4⟩))
          have hown4 := ownsRow_take (ownsRow_below (w := w3.drew) hown3 hb4) (show m ≤ m + 0 by omega)
          have hbb4 := below_step hbb3.drew hbb3.size hb4
          go_wp2_with (refine wpList_append_one w4 rfl (.tmp 36) (.tmp 38) 75 rfl w.heap.size 116 i0 _ 16 Tryz.underlying75 hi hz0 hz1 hz2 rfl g m m (xs.take m) _ rfl hown4 rfl rfl (by omega) (by omega) hbb4.size ?_; intro g' cap' w5 hown5 hgrow5 hat)
          go_roundw
          case rel =>
            obtain ⟨st', xs', hl, h1, h2, h3, h4⟩ := lift_next (nd := ⟨1, rs, 0, 0, 0⟩) HM.out rfl rfl (show IsPart (k + 1) _ (wnode ⟨1, rs, 0, 0, 0⟩ (st.drop m)) by unfold wnode; rw [if_pos (by simp)]; exact .inl ⟨_, rfl, rfl⟩) hparts (by have := HM.out; omega) hown5 HS.out HD2.out
            exact ⟨k + 1, st', g', cap', xs', by omega, by go_num, by rw [hl], hbb4.grown hgrow5 hbb4.size (by intro q hq; cases hq; exact hgB), h1, h2, h3, h4⟩
          case measure => simp [intOf]; omega
        · have hcm2 : ¬ sc = m := fun h => hcm1 h.symm
          clear hcm1
          go_wp2_with (first | (go_at_call 77; refine (operands_ok _ _).mono ?_; rintro e w2 ⟨rfl, rfl⟩; rw [show arity 1 = 0 from rfl]) | (go_at_call 78; refine (fieldsOK_ok _ _ _ _ _ _ _ hsva).mono ?_; rintro e w3 ⟨rfl, hb3⟩))
          have hown3 := ownsRow_below (hown.alloc _) hb3
          have hz3 := hb3.size
          have hvar : wr.heap.size < w3.heap.size := Nat.lt_of_lt_of_le (by simp) hz3
          have hbb3 := below_step hba hba.size hb3
          have e0 : w3.cell? ⟨wr.heap.size, 0, none⟩ = some (.int .i64 1) := (hb3.cell (by simp)).trans (by simp)
          have e1 : w3.cell? ⟨wr.heap.size, 1, none⟩ = some (.slice sao rs.length scp) := (hb3.cell (by simp)).trans (by simp)
          have e2 : w3.cell? ⟨wr.heap.size, 2, none⟩ = some (.int .i64 0) := (hb3.cell (by simp)).trans (by simp)
          have e3 : w3.cell? ⟨wr.heap.size, 3, none⟩ = some (.int .i64 0) := (hb3.cell (by simp)).trans (by simp)
          have e4 : w3.cell? ⟨wr.heap.size, 4, none⟩ = some (.int .i64 0) := (hb3.cell (by simp)).trans (by simp)
          have hq1 : RangesAt lo w3.drew (.slice sao rs.length scp) rs := hsva.below hb3.drew
          have i1 : (0 : Int) ≤ (m : Int) := by omega
          have i2 : (m : Int) ≤ ((m + 0 : Nat) : Int) := by omega
          have i2' : (m : Int) ≤ (m : Int) + 0 := by omega
          have i3 : ((m + 0 : Nat) : Int) ≤ (sc : Int) := by omega
          have i4 : (m : Int) + 0 ≤ (sc : Int) := by omega
          have i5 : (m : Int) ≤ (sc : Int) := by omega
          go_region_held3 (fun w' => w'.cell? ⟨wr.heap.size, 0, none⟩ = some (.int .i64 1) ∧ w'.cell? ⟨wr.heap.size, 1, none⟩ = some (.slice sao rs.length scp) ∧ w'.cell? ⟨wr.heap.size, 2, none⟩ = some (.int .i64 0) ∧ w'.cell? ⟨wr.heap.size, 3, none⟩ = some (.int .i64 0) ∧ w'.cell? ⟨wr.heap.size, 4, none⟩ = some (.int .i64 0)) ((first | go_keep | exact ⟨(hb4.cell (by exact hvar)).trans e0, (hb4.cell (by exact hvar)).trans e1, (hb4.cell (by exact hvar)).trans e2, (hb4.cell (by exact hvar)).trans e3, (hb4.cell (by exact hvar)).trans e4⟩)) ((go_at_call 79; refine (join_set _ _ _ _ (hq1) HR.out).mono ?_; rintro e w4 ⟨mg, rfl, hmg, hmr, hb4⟩))
          have hown4 := ownsRow_take (ownsRow_below (w := w3.drew) hown3 hb4) (show m ≤ m + 0 by omega)
          have hbb4 := below_step hbb3.drew hbb3.size hb4
          go_wp2_with (refine wpList_append_one w4 rfl (.tmp 36) (.tmp 38) 75 rfl w.heap.size 116 i0 _ 16 Tryz.underlying75 hi hz0 hz1 hz2 rfl g sc m (xs.take m) _ rfl hown4 rfl rfl (by omega) (by omega) hbb4.size ?_; intro g' cap' w5 hown5 hgrow5 hat)
          go_roundw
          case rel =>
            obtain ⟨st', xs', hl, h1, h2, h3, h4⟩ := lift_next (nd := ⟨1, rs, 0, 0, 0⟩) HM.out rfl rfl (show IsPart (k + 1) _ (wnode ⟨1, rs, 0, 0, 0⟩ (st.drop m)) by unfold wnode; rw [if_pos (by simp)]; exact .inl ⟨_, rfl, rfl⟩) hparts (by have := HM.out; omega) hown5 HS.out HD2.out
            exact ⟨k + 1, st', g', cap', xs', by omega, by go_num, by rw [hl], hbb4.grown hgrow5 hbb4.size (by intro q hq; cases hq; exact hgB), h1, h2, h3, h4⟩
          case measure => simp [intOf]; omega
    · have hkk : k = ns.length := by omega
      have HF : Hid (liftW ns [] = some st) := by show _ = _; rw [HS.out, List.drop_eq_nil_of_le (by omega)]; rfl
      by_cases hone : st.length = 1
      · obtain ⟨t0, x0, hx0, hp0⟩ := hparts.2 0 (by omega)
        rw [hone] at hown ⊢
        have q0 : wr.cell? ⟨g, 0, none⟩ = some (.iface t0 x0) := (hown.cellAt 0 (by omega)).trans hx0
        have Hone : Hid _ := hone
        clear hone hx0
        go_wp2
        go_ret2
        refine ⟨hb, .inr ⟨st.getD 0 0, t0, x0, k, ?_, rfl, hp0⟩⟩
        unfold liftF
        rw [HF.out]
        match st, Hone.out with
        | [a], _ => rfl
      · have hne : (((st.length : Nat) : Int) != 1) = true := by rw [bne_iff_ne]; omega
        have Hone : Hid _ := hone
        clear hone
        go_wp2
        go_ret2
        refine ⟨hb, .inl ⟨?_, rfl⟩⟩
        unfold liftF
        rw [HF.out]
        match st, Hone.out with
        | [], _ => rfl
        | [a], h => exact absurd rfl h
        | _ :: _ :: _, _ => rfl
end Go.Proofs.YtgbdlgogccgciaaGreatDoor
