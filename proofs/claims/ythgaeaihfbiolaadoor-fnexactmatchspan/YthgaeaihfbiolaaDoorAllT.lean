import Derived.Test.YthgaeaihfbiolaaDoorLiftT
import Derived.Test.YthgaeaihfbiolaaDoorAll
import Derived.Test.YthgaeaihfbiolaaDoorGrpImpl
namespace Go.Proofs.YthgaeaihfbiolaaDoor
open Go.RowKit
attribute [local go_sem ↓] Go.wp_at_zero Go.wp_at_succ

/-- The branches' trees. -/
def btrees (bs : List BranchD) : List Pt := bs.map fun b => tOf b.nodes (b.nodes.length - 1)
theorem btrees_len (bs : List BranchD) : (btrees bs).length = bs.length := by simp [btrees]
theorem TreesAt.keep {w w' : World} {xs : List Value} {st : List Int} {ts : List Pt} (h : TreesAt w xs st ts) (hk : KeepM w w') : TreesAt w' xs st ts :=
  ⟨h.1, fun j hj => by obtain ⟨t, x, h1, h2⟩ := h.2.1 j hj; exact ⟨t, x, h1, h2.keep hk⟩, h.2.2⟩
theorem trees_snoc {w : World} {xs : List Value} {st : List Int} {bs : List BranchD} {k : Nat} (h : TreesAt w xs st ((btrees bs).take k)) (hk : k < bs.length) (hst : st.length = k) {t : TypeId} {x : Value} {wt : Int}
    (hp : IsTr w (.iface t x) (tOf (bs.getD k .zero).nodes ((bs.getD k .zero).nodes.length - 1)) wt) : TreesAt w (xs ++ [.iface t x]) (st ++ [wt]) ((btrees bs).take (k + 1)) := by
  have hb := btrees_len bs
  have hx := h.1
  refine ⟨by simp [hx], fun j hj => ?_, by simp; omega⟩
  simp only [List.length_append, List.length_cons, List.length_nil] at hj
  by_cases e : j = k
  · subst e
    refine ⟨t, x, ?_, ?_⟩
    · rw [List.getElem?_append_right (by omega), hx, hst, Nat.sub_self]; rfl
    · have e1 : (st ++ [wt]).getD j 0 = wt := by rw [List.getD_eq_getElem?_getD, List.getElem?_append_right (by omega), hst, Nat.sub_self]; rfl
      have e2 : ((btrees bs).take (j + 1)).getD j ptNone = tOf (bs.getD j .zero).nodes ((bs.getD j .zero).nodes.length - 1) := by
        rw [List.getD_eq_getElem?_getD, List.getElem?_take, if_pos (by omega)]
        simp [btrees, hk]
      rw [e1, e2]; exact hp
  · obtain ⟨t', x', h1, h2⟩ := h.2.1 j (by omega)
    refine ⟨t', x', by rw [List.getElem?_append_left (by omega)]; exact h1, ?_⟩
    have e1 : (st ++ [wt]).getD j 0 = st.getD j 0 := by rw [List.getD_eq_getElem?_getD, List.getElem?_append_left (by omega), List.getD_eq_getElem?_getD]
    have e2 : ((btrees bs).take (k + 1)).getD j ptNone = ((btrees bs).take k).getD j ptNone := by
      rw [List.getD_eq_getElem?_getD, List.getD_eq_getElem?_getD, List.getElem?_take, List.getElem?_take, if_pos (by omega), if_pos (by omega)]
    rw [e1, e2]; exact h2
def depthP : Pt → Nat
  | .set _ => 1
  | .seq l r => depthP l + depthP r + 1
  | .alt l r => depthP l + depthP r + 1
  | .rep b _ _ => depthP b + 1
  | .grp b _ => depthP b + 1
theorem tree_part {w : World} : ∀ (p : Pt) (v : Value), TreeAt w v p → IsPart (depthP p) v (wPt p)
  | .set _, _, ⟨_, h, _⟩ => .inl ⟨_, h, rfl⟩
  | .seq l r, _, ⟨lv, rv, h, h1, h2⟩ => .inr (.inl ⟨lv, rv, _, _, h, IsPart.mono _ _ _ _ (Nat.le_add_right _ _) (tree_part l lv h1), IsPart.mono _ _ _ _ (Nat.le_add_left _ _) (tree_part r rv h2), rfl⟩)
  | .alt l r, _, ⟨lv, rv, h, h1, h2⟩ => .inr (.inr (.inl ⟨lv, rv, _, _, h, IsPart.mono _ _ _ _ (Nat.le_add_right _ _) (tree_part l lv h1), IsPart.mono _ _ _ _ (Nat.le_add_left _ _) (tree_part r rv h2), rfl⟩))
  | .rep b mn mx, _, ⟨lv, h, h1, h2⟩ => .inr (.inr (.inr (.inl ⟨lv, _, mn, mx, h, tree_part b lv h1, h2, rfl⟩)))
  | .grp b g, _, ⟨lv, h, h1⟩ => .inr (.inr (.inr (.inr ⟨lv, g, h, tree_part b lv h1⟩)))
theorem TreesAt.parts {w : World} {xs : List Value} {st : List Int} {ts : List Pt} (h : TreesAt w xs st ts) : ∃ N, Parts N xs st := by
  have key : ∀ m, m ≤ st.length → ∃ N, ∀ j, j < m → ∃ t x, xs[j]? = some (.iface t x) ∧ IsPart N (.iface t x) (st.getD j 0) := by
    intro m
    induction m with
    | zero => intro _; exact ⟨0, fun j hj => absurd hj (Nat.not_lt_zero _)⟩
    | succ m ih =>
      intro hm
      obtain ⟨N, hN⟩ := ih (by omega)
      obtain ⟨t, x, hx, p, hp, hw, _⟩ := h.2.1 m (by omega)
      refine ⟨N + depthP p, fun j hj => ?_⟩
      by_cases e : j = m
      · subst e
        exact ⟨t, x, hx, by rw [← hw]; exact IsPart.mono _ _ _ _ (Nat.le_add_left _ _) (tree_part p _ hp)⟩
      · obtain ⟨t', x', h1, h2⟩ := hN j (by omega)
        exact ⟨t', x', h1, IsPart.mono _ _ _ _ (Nat.le_add_right _ _) h2⟩
  obtain ⟨N, hN⟩ := key st.length (Nat.le_refl _)
  exact ⟨N, h.1, hN⟩

set_option maxRecDepth 100000 in
set_option maxHeartbeats 1000000 in
theorem liftBranches_okT {lo : Nat} (v : Value) (bs : List BranchD) (w : World) (hs : BranchesAt lo w v bs) (hsm : Small bs) :
    Calls Tryd.prog 33 #[v] w fun e w' => Below w.heap.size w w' ∧ ((liftAll bs = none ∧ e = .returned (.tuple #[.slice none 0 0, .bool false])) ∨
      ∃ (st : List Int) (xs : List Value) (g sc : Nat), liftAll bs = some st ∧ st.length = bs.length ∧ e = .returned (.tuple #[.slice (some ⟨g, 0, none⟩) st.length sc, .bool true]) ∧ w'.ownsRow w.heap.size 57 1 (.slice (some ⟨g, 0, none⟩) st.length sc) st.length xs ∧ TreesAt w' xs st (btrees bs)) := by
  obtain ⟨ao, cap, rfl, hm, hc⟩ := hs
  have hn := hsm.1
  obtain ⟨i0, hi, hz0, hz1, hz2⟩ := info_parts Tryd.infoPart
  go_enter Tryd.func33, Tryd.ntmps33
  go_wp2_with (refine wpList_make_own _ rfl _ _ 41 rfl w.heap.size 57 i0 _ 1 Tryd.underlying41 hi hz0 hz1 _ _ _ bs.length rfl rfl rfl (by rw [hz2]; omega) (by unfold maxLen; omega) (Nat.le_refl _) ?_; intro w1 hown hgrow)
  have hbw : Below w.heap.size w w1 := (Below.refl _ _).grown hgrow (Nat.le_refl _) (by intro k h; cases h)
  clear hgrow
  go_loopw [4, 14] (fun s i wr => ∃ (k : Nat) (st : List Int) (g sc : Nat) (xs : List Value), k ≤ bs.length ∧ st.length = k ∧ i = .int .i64 k ∧ s = .slice (some ⟨g, 0, none⟩) st.length sc ∧ Below w.heap.size w wr ∧ wr.ownsRow w.heap.size 57 1 (.slice (some ⟨g, 0, none⟩) st.length sc) st.length xs ∧ TreesAt wr xs st ((btrees bs).take k) ∧ Hid (liftAll bs = (liftAll (bs.drop k)).map (st ++ ·)))
    (fun _ i _ => bs.length - (intOf i).toNat)
  case atStart => exact ⟨0, [], _, _, [], Nat.zero_le _, rfl, rfl, rfl, hbw, hown, ⟨rfl, fun j hj => absurd hj (Nat.not_lt_zero _), rfl⟩, by show _ = _; simp⟩
  case round =>
    obtain ⟨k, st, g, sc, xs, hk, hstk, rfl, rfl, hb, hown, hparts, HS⟩ := hrel
    obtain ⟨hgB, hgl, hdc, hcm⟩ := own_form hown
    have HK : Hid (st.length = k) := hstk
    by_cases hlt : k < bs.length
    · obtain ⟨b, o, nv, bd, rfl, Hn, hbl, c0, c1, c2, hnv⟩ := hc.elem hb hlt
      have hz := hb.size
      have hnl : bd.nodes.length ≤ 1048576 := by have := (hsm.2 k hlt).1; rw [Hn.out] at this; exact this
      obtain ⟨nao, ncp, rfl, hnm, hnc⟩ := hnv
      have hba : Below w.heap.size w (wr.alloc (.cells #[.bool bd.bol, .bool bd.eol, .slice nao bd.nodes.length ncp] 37)) := hb.alloc hz _
      have hnva : NodesAt lo (wr.alloc (.cells #[.bool bd.bol, .bool bd.eol, .slice nao bd.nodes.length ncp] 37)) (.slice nao bd.nodes.length ncp) bd.nodes := NodesAt.below ⟨_, _, rfl, hnm, hnc⟩ ((Below.refl _ _).alloc (Nat.le_refl _) _)
      generalize hdd : st.length = d at *
      have Hdd : Hid _ := hdd
      clear hdd
      subst hstk
      go_wp2_with fail
      refine (lift_okT _ _ _ hnva hnl).mono ?_
      rintro e w2 ⟨hb2, ⟨hf, rfl⟩ | ⟨wt, t, x, hf, rfl, hp⟩⟩
      · have Hf : Hid _ := hf
        clear hf
        go_wp2
        go_ret2
        refine ⟨below_step hba hba.size hb2, .inl ⟨?_, rfl⟩⟩
        rw [HS.out, liftAll_none bs _ hlt bd Hn.out Hf.out]
        rfl
      · have Hf : Hid _ := hf
        clear hf
        have hown2 := ownsRow_below (hown.alloc (.cells #[.bool bd.bol, .bool bd.eol, .slice nao bd.nodes.length ncp] 37)) hb2
        have hbb2 := below_step hba hba.size hb2
        go_wp2_with (refine wpList_append_one w2 rfl (.tmp 26) (.tmp 28) 41 rfl w.heap.size 57 i0 _ 16 Tryd.underlying41 hi hz0 hz1 hz2 rfl g sc d xs _ rfl hown2 rfl rfl (by omega) (by omega) hbb2.size ?_; intro g' cap' w5 hown5 hgrow5 hat)
        go_roundw
        case rel =>
          have hl : (st ++ [wt]).length = d + 1 := by have := Hdd.out; simp; omega
          have hK : KeepM wr w2 := KeepM.of (below_step ((Below.refl _ _).alloc (Nat.le_refl _) _) (by simp) hb2)
          obtain ⟨cur, hcur⟩ := own_row hown2
          have hG : KeepM w2 w5 := KeepM.grown hgrow5 hcur (by decide)
          have hps : TreesAt w5 (xs ++ [.iface t x]) (st ++ [wt]) ((btrees bs).take (d + 1)) := by
            refine trees_snoc (hparts.keep (hK.trans hG)) hlt (by have := Hdd.out; omega) ?_
            rw [Hn.out]
            exact hp.keep hG
          exact ⟨d + 1, st ++ [wt], g', cap', xs ++ [.iface t x], by omega, hl, by go_num, by rw [hl], hbb2.grown hgrow5 hbb2.size (by intro q hq; cases hq; exact hgB), by rw [hl]; exact hown5, hps, liftAll_step HS.out (liftAll_some bs _ hlt bd Hn.out wt Hf.out)⟩
        case measure => simp [intOf]; omega
    · have hkk : bs.drop k = [] := List.drop_eq_nil_of_le (by omega)
      have hnl2 : st.length = bs.length := by omega
      have Hnl : Hid _ := hnl2
      clear hstk hnl2
      go_wp2
      go_ret2
      refine ⟨hb, .inr ⟨st, xs, g, sc, ?_, Hnl.out, rfl, hown, by rw [List.take_of_length_le (by rw [btrees_len]; omega)] at hparts; exact hparts⟩⟩
      rw [HS.out, hkk]
      simp [liftAll]

/-- What liftRule answers. -/
def LiftR (w : World) (G : Int) (bs : List BranchD) (e : Ending) (w' : World) : Prop :=
  Below w.heap.size w w' ∧ ((implB G bs = false ∧ ∃ pv, e = .returned (.tuple #[pv, .bool false])) ∨ (implB G bs = true ∧ ∃ (st : List Int) (xs : List Value) (B g sc : Nat), liftAll bs = some st ∧ st.length = bs.length ∧ sumCap st ≤ 2000 ∧ e = .returned (.tuple #[.slice (some ⟨g, 0, none⟩) st.length sc, .bool true]) ∧ w'.ownsRow B 57 1 (.slice (some ⟨g, 0, none⟩) st.length sc) st.length xs ∧ TreesAt w' xs st (btrees bs)))

set_option maxRecDepth 100000 in
set_option maxHeartbeats 2000000 in
theorem liftRule_okT {lo : Nat} (G : Int) (v : Value) (bs : List BranchD) (w : World) (hs : BranchesAt lo w v bs) (hsm : Small bs) :
    Calls Tryd.prog 14 #[.agg #[v, .int .i64 G]] w fun e w' => LiftR w G bs e w' := by
  have hn := hsm.1
  have hs0 := hs
  obtain ⟨ao, cap, rfl, hm, hc⟩ := hs
  have hb0 : Below w.heap.size w (w.alloc (.cells #[.slice ao bs.length cap, .int .i64 G] 29)) := (Below.refl _ _).alloc (Nat.le_refl _) _
  have Hfalse : ∀ {b : Bool}, implB G bs = b → Hid (implB G bs = b) := fun h => h
  by_cases h1 : (bs.length : Int) < 1
  · have H := Hfalse (b := false) (by simp [implB]; omega)
    clear Hfalse
    go_enter Tryd.func14, Tryd.ntmps14
    go_wp2
    go_ret2
    exact ⟨hb0, .inl ⟨H.out, _, rfl⟩⟩
  by_cases h2 : 2000 < (bs.length : Int)
  · have H := Hfalse (b := false) (by simp [implB]; omega)
    clear Hfalse
    go_enter Tryd.func14, Tryd.ntmps14
    go_wp2
    go_ret2
    exact ⟨hb0, .inl ⟨H.out, _, rfl⟩⟩
  by_cases h3 : G < 0
  · have H := Hfalse (b := false) (by simp [implB]; omega)
    clear Hfalse
    go_enter Tryd.func14, Tryd.ntmps14
    go_wp2
    go_ret2
    exact ⟨hb0, .inl ⟨H.out, _, rfl⟩⟩
  by_cases h4 : 500 < G
  · have H := Hfalse (b := false) (by simp [implB]; omega)
    clear Hfalse
    go_enter Tryd.func14, Tryd.ntmps14
    go_wp2
    go_ret2
    exact ⟨hb0, .inl ⟨H.out, _, rfl⟩⟩
  have HA : Hid (implB G bs = (decide (nodeCount bs ≤ 5000) && grpOKs G [] (allGrp bs) && match liftAll bs with
    | none => false
    | some st => decide (sumCap st ≤ 2000))) := by
    show _ = _
    unfold implB
    have e1 : decide (1 ≤ bs.length ∧ bs.length ≤ 2000) = true := by simp; omega
    have e2 : decide (0 ≤ G ∧ G ≤ 500) = true := by simp; omega
    rw [e1, e2]
    simp only [Bool.true_and]
    cases liftAll bs <;> rfl
  clear Hfalse
  have hnc := nodeCount_bd hsm bs.length (Nat.le_refl _)
  rw [List.take_length] at hnc
  go_enter Tryd.func14, Tryd.ntmps14
  go_wp2_with fail
  refine (countNodes_ok _ bs _ (hs0.below hb0) hsm).mono ?_
  rintro e w1 ⟨rfl, hb1⟩
  have k0 : w1.cell? ⟨w.heap.size, 0, none⟩ = some (.slice ao bs.length cap) := (hb1.cell (by simp)).trans (by simp)
  have k1 : w1.cell? ⟨w.heap.size, 1, none⟩ = some (.int .i64 G) := (hb1.cell (by simp)).trans (by simp)
  have hz1 : w.heap.size < w1.heap.size := Nat.lt_of_lt_of_le (by simp) hb1.size
  have hbb1 := below_step hb0 hb0.size hb1
  by_cases h5 : 5000 < (nodeCount bs : Int)
  · have H : Hid (implB G bs = false) := by
      show _ = _
      rw [HA.out]
      have : decide (nodeCount bs ≤ 5000) = false := by simp; omega
      rw [this]; simp
    clear HA
    go_wp2
    go_ret2
    exact ⟨hbb1, .inl ⟨H.out, _, rfl⟩⟩
  go_wp2_with fail
  refine (groupsOK_ok G _ bs _ (hs0.below hbb1) hsm (by omega) (by omega)).mono ?_
  rintro e w2 ⟨rfl, hb2⟩
  have m0 : w2.cell? ⟨w.heap.size, 0, none⟩ = some (.slice ao bs.length cap) := (hb2.cell (by exact hz1)).trans k0
  have hbb2 := below_step hbb1 hbb1.size hb2
  have hz2 : w.heap.size < w2.heap.size := Nat.lt_of_lt_of_le hz1 hb2.size
  have e5 : decide (nodeCount bs ≤ 5000) = true := by simp; omega
  rw [e5, Bool.true_and] at HA
  clear e5 k0 k1 hb1 hb2
  by_cases h6 : grpOKs G [] (allGrp bs) = false
  · have H : Hid (implB G bs = false) := by show _ = _; rw [HA.out, h6]; simp
    clear HA
    go_wp2
    go_ret2
    exact ⟨hbb2, .inl ⟨H.out, _, rfl⟩⟩
  have h6' : grpOKs G [] (allGrp bs) = true := by simpa using h6
  clear h6
  rw [h6', Bool.true_and] at HA
  go_wp2_with fail
  refine (liftBranches_okT _ bs _ (hs0.below hbb2) hsm).mono ?_
  rintro e w3 ⟨hb3, ⟨hf, rfl⟩ | ⟨st, xs, g, sc, hf, hl, rfl, hown, htrees⟩⟩
  · have H : Hid (implB G bs = false) := by show _ = _; rw [HA.out, hf]
    clear HA hf
    go_wp2
    go_ret2
    exact ⟨below_step hbb2 hbb2.size hb3, .inl ⟨H.out, _, rfl⟩⟩
  · have H : Hid (implB G bs = decide (sumCap st ≤ 2000)) := by show _ = _; rw [HA.out, hf]
    have hst : st.length ≤ 2000000 := by omega
    obtain ⟨N, hparts⟩ := htrees.parts
    have Hf : Hid _ := hf
    have Hl : Hid _ := hl
    clear HA hf hl
    have hbb3 := below_step hbb2 hbb2.size hb3
    have hsb := sumCap_bd hparts st.length (Nat.le_refl _)
    rw [List.take_length] at hsb
    by_cases h7 : 2000 < sumCap st
    · go_wp2_with fail
      refine (weightOfAll_ok st xs _ hown hparts hst).mono ?_
      rintro e w4 ⟨rfl, hb4⟩
      go_wp2
      go_ret2
      exact ⟨below_step hbb3 hbb3.size hb4, .inl ⟨by rw [H.out]; simp; omega, _, rfl⟩⟩
    · go_wp2_with fail
      refine (weightOfAll_ok st xs _ hown hparts hst).mono ?_
      rintro e w4 ⟨rfl, hb4⟩
      go_wp2
      go_ret2
      exact ⟨below_step hbb3 hbb3.size hb4, .inr ⟨by rw [H.out]; simp; omega, st, xs, _, g, sc, Hf.out, Hl.out, by omega, rfl, ownsRow_below hown hb4, htrees.keep (KeepM.of hb4)⟩⟩
end Go.Proofs.YthgaeaihfbiolaaDoor
