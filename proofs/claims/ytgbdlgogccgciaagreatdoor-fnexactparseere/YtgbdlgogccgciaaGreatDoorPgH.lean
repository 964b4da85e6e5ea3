import Derived.Test.YtgbdlgogccgciaaGreatDoorTxtSpIPgDPgEPgFPgG
namespace Go.Proofs.YtgbdlgogccgciaaGreatDoor
open Go.RowKit
attribute [local go_sem ↓] Go.wp_at_zero Go.wp_at_succ

/- INTERVALS, THE CODE's SIDE. -/
/-- What a cut at one byte hands on. -/
structure CutB (c : UInt8) (l : List UInt8) (S X : ByteArray) (b : Bool) : Prop where
  yes : ∀ q r, cut1 c l = some (q, r) → S = BA q ∧ X = BA r ∧ b = true
  no : cut1 c l = none → S = BA l ∧ X = BA [] ∧ b = false
theorem cutB_ok (s : ByteArray) (c : UInt8) (m : Int) (w : World) (hs : s.size < 4294967281) (hm : w.cell? ⟨1, 0, none⟩ = some (.int .i64 m)) :
    Calls Tryz.prog 68 #[.string s, .string ⟨#[c]⟩] w fun e w' => ∃ n S X b, w' = w.drewN n ∧ e = .returned (.tuple #[.string S, .string X, .bool b]) ∧ CutB c s.data.toList S X b ∧ S.size ≤ s.size ∧ X.size ≤ s.size := by
  have hlen : s.data.toList.length = s.size := Array.length_toList
  refine (cut1_ok s c m w hs hm).mono ?_
  rintro e w' ⟨⟨n, hw⟩, he⟩
  cases h : cut1 c s.data.toList with
  | none =>
    rw [h] at he
    exact ⟨n, _, _, _, hw, he, ⟨fun q r h2 => (by rw [h] at h2; cases h2), fun _ => ⟨rfl, rfl, rfl⟩⟩, by rw [BA_size]; omega, by rw [BA_size]; simp⟩
  | some p =>
    obtain ⟨q, r⟩ := p
    rw [h] at he
    have h3 := congrArg List.length (cut1_some h).1
    rw [List.length_append, List.length_cons] at h3
    exact ⟨n, _, _, _, hw, he, ⟨fun q2 r2 h2 => (by rw [h] at h2; cases h2; exact ⟨rfl, rfl, rfl⟩), fun h2 => (by rw [h] at h2; cases h2)⟩, by rw [BA_size]; omega, by rw [BA_size]; omega⟩
theorem interval_ans {l : List UInt8} {S1 X1 L2 H2 : ByteArray} {closed cm : Bool} (h1 : CutB 125 l S1 X1 closed) (h2 : CutB 44 S1.data.toList L2 H2 cm) : intervalF l = (ansI closed cm (decide (H2.size = 0)) (countF L2.data.toList) (countF H2.data.toList)).map fun p => (p.1, p.2, S1.size + 1) := by
  unfold intervalF ansI
  cases hc : cut1 125 l with
  | none => obtain ⟨_, _, rfl⟩ := h1.no hc; rfl
  | some p =>
    obtain ⟨q, r⟩ := p
    obtain ⟨rfl, _, rfl⟩ := h1.yes q r hc
    rw [if_neg (by decide), BA_size]
    rw [BA_list] at h2
    show (match cut1 44 q with | none => _ | some (low, high) => _) = _
    cases hc2 : cut1 44 q with
    | none =>
      obtain ⟨rfl, _, rfl⟩ := h2.no hc2
      rw [BA_list]
      show (match countF q with | none => none | some m => some ((m : Int), (m : Int), q.length + 1)) = _
      cases hq : countF q with
      | none => rfl
      | some a => rfl
    | some p =>
      obtain ⟨lo, hi⟩ := p
      obtain ⟨rfl, rfl, rfl⟩ := h2.yes lo hi hc2
      rw [BA_list, BA_list, BA_size]
      show (match countF lo with | none => none | some m => if hi = [] then some ((m : Int), -1, q.length + 1) else match countF hi with | none => none | some n => if m ≤ n then some ((m : Int), (n : Int), q.length + 1) else none) = _
      cases hq : countF lo with
      | none => rfl
      | some a =>
        simp only [if_neg (show ¬true = false by decide)]
        by_cases he : hi = []
        · subst he; rfl
        · rw [if_neg he, if_neg (by simp; exact he)]
          cases hq2 : countF hi with
          | none => rfl
          | some b =>
            by_cases hab : a ≤ b
            · simp [hab]
            · simp [hab]
set_option maxRecDepth 100000 in
set_option maxHeartbeats 4000000 in
theorem readInterval_ok (t : ByteArray) (i : Nat) (m : Int) (w : World) (hi : i < t.size) (hs : t.size ≤ 2000) (h123 : atL t.data.toList i = 123) (hm : w.cell? ⟨1, 0, none⟩ = some (.int .i64 m)) (hm1 : 1 < w.heap.size) :
    Calls Tryz.prog 48 #[.string t, .int .i64 (i : Int)] w (RdA w i (tokF t.data.toList i)) := by
  have h1 : (i : Int) + 1 ≤ (t.size : Int) := by omega
  have i2 : ((i : Int) + 1).toNat = i + 1 := by omega
  have ht := tokF_123 h123
  obtain ⟨R, hR⟩ : ∃ R, R = t.extract (i + 1) t.size := ⟨_, rfl⟩
  have hRl : R.data.toList = t.data.toList.drop (i + 1) := by
    rw [hR, ext_list]
    exact List.take_of_length_le (by rw [List.length_drop, Array.length_toList]; exact Nat.le_refl _)
  have hRs : R.size ≤ 2000 := by
    have h9 : R.data.toList.length = R.size := Array.length_toList
    have h8 : t.data.toList.length = t.size := Array.length_toList
    rw [hRl, List.length_drop] at h9
    omega
  rw [← hRl] at ht
  have HTT := hid ht
  clear ht
  obtain ⟨W1, hW1⟩ : ∃ W1, W1 = w.alloc (.cells #[.int .i64 0, .int .i64 0, .slice none 0 0, .int .i64 0, .int .i64 0] 105) := ⟨_, rfl⟩
  have hP : W1.heap[w.heap.size]? = some (.cells #[.int .i64 0, .int .i64 0, .slice none 0 0, .int .i64 0, .int .i64 0] 105 (0, 0)) := by rw [hW1]; exact heap_alloc_new _ _
  have hb1 : Below w.heap.size w W1 := by rw [hW1]; exact (Below.refl _ _).alloc (Nat.le_refl _) _
  have hmW : W1.cell? ⟨1, 0, none⟩ = some (.int .i64 m) := by rw [World.cell?_of_block (w := w) (hb1.block 1 hm1)]; exact hm
  have HRR := hid hR.symm
  have HRl := hid hRl
  clear hRl hm
  go_enter Tryz.func48, Tryz.ntmps48
  go_wp2_with fail
  rw [← hW1]
  clear hW1
  rw [HRR.out]
  clear hR
  refine (cutB_ok R 125 m W1 (by omega) hmW).mono ?_
  rintro e w2 ⟨n1, S1, X1, closed, rfl, rfl, hc1, hs1, _⟩
  go_wp2_with fail
  refine (cutB_ok S1 44 m (W1.drewN n1) (by omega) hmW).mono ?_
  rintro e w2 ⟨n2, L2, H2, cm, rfl, rfl, hc2, hs2, hs3⟩
  have hans := interval_ans hc1 hc2
  clear hc1 hc2
  obtain ⟨W2, hW2⟩ : ∃ W2, W2 = (W1.drewN n1).drewN n2 := ⟨_, rfl⟩
  have hP3 : W2.heap[w.heap.size]? = some (.cells #[.int .i64 0, .int .i64 0, .slice none 0 0, .int .i64 0, .int .i64 0] 105 (0, 0)) := by rw [hW2]; exact hP
  have hbx : Below w.heap.size w W2 := by rw [hW2]; exact below_drewN (below_drewN hb1 _) _
  rw [← hW2]
  clear hW2 hmW
  obtain ⟨r0, r1, r2, r3, r4⟩ := row_five hP3
  have fz : ∀ o, W2.frozen? ⟨w.heap.size, o, none⟩ = false := fun o => frozen_of_row _ _ _ _ _ hP3
  have g0 := fz 0
  have g1 := fz 1
  have g2 := fz 2
  have g3 := fz 3
  have g4 := fz 4
  clear fz
  have HT : Hid (tokF t.data.toList i = match ansI closed cm (decide (H2.size = 0)) (countF L2.data.toList) (countF H2.data.toList) with | none => .inl 4 | some p => .inr (⟨4, i, noB, p.1, p.2⟩, i + 1 + (S1.size + 1))) := by
    show _ = _
    rw [HTT.out, hans]
    cases ansI closed cm (decide (H2.size = 0)) (countF L2.data.toList) (countF H2.data.toList) <;> rfl
  clear HTT hans
  go_wp2_with fail
  refine (readCount_ok L2 W2).mono ?_
  rintro e w3 ⟨hA1, hw⟩
  rw [hw]
  clear hw w3
  have hsz : S1.size ≤ 2000 := by omega
  obtain ⟨o1, ho1⟩ : ∃ o, o = countF L2.data.toList := ⟨_, rfl⟩
  obtain ⟨o2, ho2⟩ : ∃ o, o = countF H2.data.toList := ⟨_, rfl⟩
  have hC2 := readCount_ok H2 W2
  rw [← ho1] at hA1 HT
  rw [← ho2] at hC2 HT
  clear ho1 ho2
  -- the first number
  cases cm with
  | false =>
    cases o1 with
    | none =>
      obtain ⟨z, hz0, hz1, rfl⟩ := hA1
      have HA : Hid (ansI closed false (decide (H2.size = 0)) none o2 = none) := by show _ = _; unfold ansI; cases closed <;> rfl
      clear hC2
      cases closed with
      | false =>
        go_wp2
        refine bodyPost_ret (v := .tuple #[.agg #[.int .i64 0, .int .i64 0, .slice none 0 0, .int .i64 0, .int .i64 0], .int .i64 0, .iface 51 (.agg #[.int .i64 4, .int .i64 (i : Int)])]) (by simp [results, Tryz.results48, go_sem, r0, r1, r2, r3, r4]) rfl ?_
        exact .bad (HT.out.trans (by rw [HA.out])) (((((hbx.setCell (by simp) _).setCell (by simp) _).setCell (by simp) _).setCell (by simp) _).setCell (by simp) _)
      | true =>
        go_wp2
        refine bodyPost_ret (v := .tuple #[.agg #[.int .i64 0, .int .i64 0, .slice none 0 0, .int .i64 0, .int .i64 0], .int .i64 0, .iface 51 (.agg #[.int .i64 4, .int .i64 (i : Int)])]) (by simp [results, Tryz.results48, go_sem, r0, r1, r2, r3, r4]) rfl ?_
        exact .bad (HT.out.trans (by rw [HA.out])) (((((hbx.setCell (by simp) _).setCell (by simp) _).setCell (by simp) _).setCell (by simp) _).setCell (by simp) _)
    | some a =>
      have hA1 : e = .returned (.tuple #[.int .i64 (a : Int), .bool true]) := hA1
      subst hA1
      clear hC2
      cases closed with
      | false =>
        have HA : Hid (ansI false false (decide (H2.size = 0)) (some a) o2 = none) := rfl
        go_wp2
        refine bodyPost_ret (v := .tuple #[.agg #[.int .i64 0, .int .i64 0, .slice none 0 0, .int .i64 0, .int .i64 0], .int .i64 0, .iface 51 (.agg #[.int .i64 4, .int .i64 (i : Int)])]) (by simp [results, Tryz.results48, go_sem, r0, r1, r2, r3, r4]) rfl ?_
        exact .bad (HT.out.trans (by rw [HA.out])) (((((hbx.setCell (by simp) _).setCell (by simp) _).setCell (by simp) _).setCell (by simp) _).setCell (by simp) _)
      | true =>
        have HA : Hid (ansI true false (decide (H2.size = 0)) (some a) o2 = some ((a : Int), (a : Int))) := rfl
        go_wp2_with fail
        refine (postfix_ok _ _ _ _).mono ?_
        rintro e w4 ⟨rfl, hb4⟩
        have hP4 := row_below hP3 (by first | exact hb4 | exact hb4)
        obtain ⟨z0, z1, z2, z3, z4⟩ := row_five hP4
        have fz4 : ∀ o, w4.frozen? ⟨w.heap.size, o, none⟩ = false := fun o => frozen_of_row _ _ _ _ _ hP4
        have k0 := fz4 0
        have k1 := fz4 1
        have k2 := fz4 2
        have k3 := fz4 3
        have k4 := fz4 4
        have hbb := below_step hbx hbx.size hb4
        clear fz4
        go_wp2
        refine bodyPost_ret (v := .tuple #[.agg #[.int .i64 4, .int .i64 i, .slice none 0 0, .int .i64 (a : Int), .int .i64 (a : Int)], .int .i64 ((i : Int) + (S1.size : Int) + 2), .nilIface]) (by simp [results, Tryz.results48, go_sem, z0, z1, z2, z3, z4]) rfl ?_
        exact .good (HT.out.trans (by rw [HA.out])) (((((hbb.setCell (by simp) _).setCell (by simp) _).setCell (by simp) _).setCell (by simp) _).setCell (by simp) _) (.bare (by simp) rfl) (by omega)
  | true =>
    by_cases hE : H2.size = 0
    · have hEb : (H2.toList == ([] : List UInt8)) = true := by
        rw [toList_eq]
        have : H2.data.toList = [] := List.eq_nil_of_length_eq_zero (by rw [Array.length_toList]; exact hE)
        rw [this]; rfl
      have hEd : decide (H2.size = 0) = true := decide_eq_true hE
      rw [hEd] at HT
      clear hC2 hEd
      cases o1 with
      | none =>
        obtain ⟨z, hz0, hz1, rfl⟩ := hA1
        have HA : Hid (ansI closed true true none o2 = none) := by show _ = _; unfold ansI; cases closed <;> rfl
        cases closed with
        | false =>
          go_wp2
          refine bodyPost_ret (v := .tuple #[.agg #[.int .i64 0, .int .i64 0, .slice none 0 0, .int .i64 0, .int .i64 0], .int .i64 0, .iface 51 (.agg #[.int .i64 4, .int .i64 (i : Int)])]) (by simp [results, Tryz.results48, go_sem, r0, r1, r2, r3, r4]) rfl ?_
          exact .bad (HT.out.trans (by rw [HA.out])) (((((hbx.setCell (by simp) _).setCell (by simp) _).setCell (by simp) _).setCell (by simp) _).setCell (by simp) _)
        | true =>
          go_wp2
          refine bodyPost_ret (v := .tuple #[.agg #[.int .i64 0, .int .i64 0, .slice none 0 0, .int .i64 0, .int .i64 0], .int .i64 0, .iface 51 (.agg #[.int .i64 4, .int .i64 (i : Int)])]) (by simp [results, Tryz.results48, go_sem, r0, r1, r2, r3, r4]) rfl ?_
          exact .bad (HT.out.trans (by rw [HA.out])) (((((hbx.setCell (by simp) _).setCell (by simp) _).setCell (by simp) _).setCell (by simp) _).setCell (by simp) _)
      | some a =>
        have hA1 : e = .returned (.tuple #[.int .i64 (a : Int), .bool true]) := hA1
        subst hA1
        cases closed with
        | false =>
          have HA : Hid (ansI false true true (some a) o2 = none) := rfl
          go_wp2
          refine bodyPost_ret (v := .tuple #[.agg #[.int .i64 0, .int .i64 0, .slice none 0 0, .int .i64 0, .int .i64 0], .int .i64 0, .iface 51 (.agg #[.int .i64 4, .int .i64 (i : Int)])]) (by simp [results, Tryz.results48, go_sem, r0, r1, r2, r3, r4]) rfl ?_
          exact .bad (HT.out.trans (by rw [HA.out])) (((((hbx.setCell (by simp) _).setCell (by simp) _).setCell (by simp) _).setCell (by simp) _).setCell (by simp) _)
        | true =>
          have HA : Hid (ansI true true true (some a) o2 = some ((a : Int), -1)) := rfl
          go_wp2_with fail
          refine (postfix_ok _ _ _ _).mono ?_
          rintro e w4 ⟨rfl, hb4⟩
          have hP4 := row_below hP3 (by first | exact hb4 | exact hb4)
          obtain ⟨z0, z1, z2, z3, z4⟩ := row_five hP4
          have fz4 : ∀ o, w4.frozen? ⟨w.heap.size, o, none⟩ = false := fun o => frozen_of_row _ _ _ _ _ hP4
          have k0 := fz4 0
          have k1 := fz4 1
          have k2 := fz4 2
          have k3 := fz4 3
          have k4 := fz4 4
          have hbb := below_step hbx hbx.size hb4
          clear fz4
          go_wp2
          refine bodyPost_ret (v := .tuple #[.agg #[.int .i64 4, .int .i64 i, .slice none 0 0, .int .i64 (a : Int), .int .i64 (-1)], .int .i64 ((i : Int) + (S1.size : Int) + 2), .nilIface]) (by simp [results, Tryz.results48, go_sem, z0, z1, z2, z3, z4]) rfl ?_
          exact .good (HT.out.trans (by rw [HA.out])) (((((hbb.setCell (by simp) _).setCell (by simp) _).setCell (by simp) _).setCell (by simp) _).setCell (by simp) _) (.bare (by simp) rfl) (by omega)
    · have hEb : (H2.toList == ([] : List UInt8)) = false := by
        rw [toList_eq]
        have : H2.data.toList ≠ [] := fun e => hE (by have := congrArg List.length e; rw [Array.length_toList] at this; exact this)
        exact beq_eq_false_iff_ne.2 this
      have hEd : decide (H2.size = 0) = false := decide_eq_false hE
      rw [hEd] at HT
      clear hEd
      cases o1 with
      | none =>
        obtain ⟨z, hz0, hz1, rfl⟩ := hA1
        have HA : Hid (ansI closed true false none o2 = none) := by show _ = _; unfold ansI; cases closed <;> rfl
        go_wp2_with fail
        refine hC2.mono ?_
        rintro e w3 ⟨hA2, hw⟩
        rw [hw]
        clear hw w3 hC2
        cases o2 with
        | none =>
          obtain ⟨y, hy0, hy1, rfl⟩ := hA2
          cases closed with
          | false =>
            go_wp2
            refine bodyPost_ret (v := .tuple #[.agg #[.int .i64 0, .int .i64 0, .slice none 0 0, .int .i64 0, .int .i64 0], .int .i64 0, .iface 51 (.agg #[.int .i64 4, .int .i64 (i : Int)])]) (by simp [results, Tryz.results48, go_sem, r0, r1, r2, r3, r4]) rfl ?_
            exact .bad (HT.out.trans (by rw [HA.out])) (((((hbx.setCell (by simp) _).setCell (by simp) _).setCell (by simp) _).setCell (by simp) _).setCell (by simp) _)
          | true =>
            go_wp2
            refine bodyPost_ret (v := .tuple #[.agg #[.int .i64 0, .int .i64 0, .slice none 0 0, .int .i64 0, .int .i64 0], .int .i64 0, .iface 51 (.agg #[.int .i64 4, .int .i64 (i : Int)])]) (by simp [results, Tryz.results48, go_sem, r0, r1, r2, r3, r4]) rfl ?_
            exact .bad (HT.out.trans (by rw [HA.out])) (((((hbx.setCell (by simp) _).setCell (by simp) _).setCell (by simp) _).setCell (by simp) _).setCell (by simp) _)
        | some b =>
          have hA2 : e = .returned (.tuple #[.int .i64 (b : Int), .bool true]) := hA2
          subst hA2
          by_cases hzb : z ≤ (b : Int)
          · cases closed with
            | false =>
              go_wp2
              refine bodyPost_ret (v := .tuple #[.agg #[.int .i64 0, .int .i64 0, .slice none 0 0, .int .i64 0, .int .i64 0], .int .i64 0, .iface 51 (.agg #[.int .i64 4, .int .i64 (i : Int)])]) (by simp [results, Tryz.results48, go_sem, r0, r1, r2, r3, r4]) rfl ?_
              exact .bad (HT.out.trans (by rw [HA.out])) (((((hbx.setCell (by simp) _).setCell (by simp) _).setCell (by simp) _).setCell (by simp) _).setCell (by simp) _)
            | true =>
              go_wp2
              refine bodyPost_ret (v := .tuple #[.agg #[.int .i64 0, .int .i64 0, .slice none 0 0, .int .i64 0, .int .i64 0], .int .i64 0, .iface 51 (.agg #[.int .i64 4, .int .i64 (i : Int)])]) (by simp [results, Tryz.results48, go_sem, r0, r1, r2, r3, r4]) rfl ?_
              exact .bad (HT.out.trans (by rw [HA.out])) (((((hbx.setCell (by simp) _).setCell (by simp) _).setCell (by simp) _).setCell (by simp) _).setCell (by simp) _)
          · cases closed with
            | false =>
              go_wp2
              refine bodyPost_ret (v := .tuple #[.agg #[.int .i64 0, .int .i64 0, .slice none 0 0, .int .i64 0, .int .i64 0], .int .i64 0, .iface 51 (.agg #[.int .i64 4, .int .i64 (i : Int)])]) (by simp [results, Tryz.results48, go_sem, r0, r1, r2, r3, r4]) rfl ?_
              exact .bad (HT.out.trans (by rw [HA.out])) (((((hbx.setCell (by simp) _).setCell (by simp) _).setCell (by simp) _).setCell (by simp) _).setCell (by simp) _)
            | true =>
              go_wp2
              refine bodyPost_ret (v := .tuple #[.agg #[.int .i64 0, .int .i64 0, .slice none 0 0, .int .i64 0, .int .i64 0], .int .i64 0, .iface 51 (.agg #[.int .i64 4, .int .i64 (i : Int)])]) (by simp [results, Tryz.results48, go_sem, r0, r1, r2, r3, r4]) rfl ?_
              exact .bad (HT.out.trans (by rw [HA.out])) (((((hbx.setCell (by simp) _).setCell (by simp) _).setCell (by simp) _).setCell (by simp) _).setCell (by simp) _)
      | some a =>
        have hA1 : e = .returned (.tuple #[.int .i64 (a : Int), .bool true]) := hA1
        subst hA1
        go_wp2_with fail
        refine hC2.mono ?_
        rintro e w3 ⟨hA2, hw⟩
        rw [hw]
        clear hw w3 hC2
        cases o2 with
        | none =>
          obtain ⟨y, hy0, hy1, rfl⟩ := hA2
          have HA : Hid (ansI closed true false (some a) none = none) := by show _ = _; unfold ansI; cases closed <;> rfl
          cases closed with
          | false =>
            go_wp2
            refine bodyPost_ret (v := .tuple #[.agg #[.int .i64 0, .int .i64 0, .slice none 0 0, .int .i64 0, .int .i64 0], .int .i64 0, .iface 51 (.agg #[.int .i64 4, .int .i64 (i : Int)])]) (by simp [results, Tryz.results48, go_sem, r0, r1, r2, r3, r4]) rfl ?_
            exact .bad (HT.out.trans (by rw [HA.out])) (((((hbx.setCell (by simp) _).setCell (by simp) _).setCell (by simp) _).setCell (by simp) _).setCell (by simp) _)
          | true =>
            go_wp2
            refine bodyPost_ret (v := .tuple #[.agg #[.int .i64 0, .int .i64 0, .slice none 0 0, .int .i64 0, .int .i64 0], .int .i64 0, .iface 51 (.agg #[.int .i64 4, .int .i64 (i : Int)])]) (by simp [results, Tryz.results48, go_sem, r0, r1, r2, r3, r4]) rfl ?_
            exact .bad (HT.out.trans (by rw [HA.out])) (((((hbx.setCell (by simp) _).setCell (by simp) _).setCell (by simp) _).setCell (by simp) _).setCell (by simp) _)
        | some b =>
          have hA2 : e = .returned (.tuple #[.int .i64 (b : Int), .bool true]) := hA2
          subst hA2
          by_cases hab : a ≤ b
          · have habI : (a : Int) ≤ (b : Int) := by omega
            cases closed with
            | false =>
              have HA : Hid (ansI false true false (some a) (some b) = none) := rfl
              go_wp2
              refine bodyPost_ret (v := .tuple #[.agg #[.int .i64 0, .int .i64 0, .slice none 0 0, .int .i64 0, .int .i64 0], .int .i64 0, .iface 51 (.agg #[.int .i64 4, .int .i64 (i : Int)])]) (by simp [results, Tryz.results48, go_sem, r0, r1, r2, r3, r4]) rfl ?_
              exact .bad (HT.out.trans (by rw [HA.out])) (((((hbx.setCell (by simp) _).setCell (by simp) _).setCell (by simp) _).setCell (by simp) _).setCell (by simp) _)
            | true =>
              have HA : Hid (ansI true true false (some a) (some b) = some ((a : Int), (b : Int))) := by show _ = _; unfold ansI; simp [hab]
              go_wp2_with fail
              refine (postfix_ok _ _ _ _).mono ?_
              rintro e w4 ⟨rfl, hb4⟩
              have hP4 := row_below hP3 (by first | exact hb4 | exact hb4)
              obtain ⟨z0, z1, z2, z3, z4⟩ := row_five hP4
              have fz4 : ∀ o, w4.frozen? ⟨w.heap.size, o, none⟩ = false := fun o => frozen_of_row _ _ _ _ _ hP4
              have k0 := fz4 0
              have k1 := fz4 1
              have k2 := fz4 2
              have k3 := fz4 3
              have k4 := fz4 4
              have hbb := below_step hbx hbx.size hb4
              clear fz4
              go_wp2
              refine bodyPost_ret (v := .tuple #[.agg #[.int .i64 4, .int .i64 i, .slice none 0 0, .int .i64 (a : Int), .int .i64 (b : Int)], .int .i64 ((i : Int) + (S1.size : Int) + 2), .nilIface]) (by simp [results, Tryz.results48, go_sem, z0, z1, z2, z3, z4]) rfl ?_
              exact .good (HT.out.trans (by rw [HA.out])) (((((hbb.setCell (by simp) _).setCell (by simp) _).setCell (by simp) _).setCell (by simp) _).setCell (by simp) _) (.bare (by simp) rfl) (by omega)
          · have habI : ¬(a : Int) ≤ (b : Int) := by omega
            have HA : Hid (ansI closed true false (some a) (some b) = none) := by show _ = _; unfold ansI; cases closed <;> simp [hab]
            cases closed with
            | false =>
              go_wp2
              refine bodyPost_ret (v := .tuple #[.agg #[.int .i64 0, .int .i64 0, .slice none 0 0, .int .i64 0, .int .i64 0], .int .i64 0, .iface 51 (.agg #[.int .i64 4, .int .i64 (i : Int)])]) (by simp [results, Tryz.results48, go_sem, r0, r1, r2, r3, r4]) rfl ?_
              exact .bad (HT.out.trans (by rw [HA.out])) (((((hbx.setCell (by simp) _).setCell (by simp) _).setCell (by simp) _).setCell (by simp) _).setCell (by simp) _)
            | true =>
              go_wp2
              refine bodyPost_ret (v := .tuple #[.agg #[.int .i64 0, .int .i64 0, .slice none 0 0, .int .i64 0, .int .i64 0], .int .i64 0, .iface 51 (.agg #[.int .i64 4, .int .i64 (i : Int)])]) (by simp [results, Tryz.results48, go_sem, r0, r1, r2, r3, r4]) rfl ?_
              exact .bad (HT.out.trans (by rw [HA.out])) (((((hbx.setCell (by simp) _).setCell (by simp) _).setCell (by simp) _).setCell (by simp) _).setCell (by simp) _)
end Go.Proofs.YtgbdlgogccgciaaGreatDoor
