import Derived.Test.YtgbdlgogccgciaaGreatDoorPgU
namespace Go.Proofs.YtgbdlgogccgciaaGreatDoor
open Go.RowKit
attribute [local go_sem ↓] Go.wp_at_zero Go.wp_at_succ

/- AN ITEM OF A BRACKET, THE CODE's SIDE. -/
theorem markIn_no2 (lo hi : Int) : markIn (fun _ => false) lo hi = rangeB lo hi := by funext c; simp [markIn, rangeB]
theorem itemC_class {l : List UInt8} (h0 : atL l 0 = 91) (h1 : atL l 1 = 58) : itemF l = clsI (l.drop 2) := by
  unfold itemF clsI
  rw [if_pos ⟨h0, h1⟩]
  cases cut2 58 93 (List.drop 2 l) with
  | none => rfl
  | some p =>
    obtain ⟨a, b⟩ := p
    cases hc : classF a <;> simp [hc]
theorem itemC_elem {l : List UInt8} (h : ¬(atL l 0 = 91 ∧ atL l 1 = 58)) (he : elemB l = true) : itemF l = none := by
  unfold itemF
  unfold elemB at he
  simp at he
  rw [if_neg h, if_pos (by omega)]
set_option maxRecDepth 100000 in
set_option maxHeartbeats 2000000 in
theorem readItem_ok (hcm : CmC) (t : ByteArray) (m : Int) (w : World) (hs : t.size ≤ 2000) (h1 : 0 < t.size) (hm : w.cell? ⟨1, 0, none⟩ = some (.int .i64 m)) (hm1 : 1 < w.heap.size) :
    Calls Tryz.prog 73 #[.string t] w fun e w' => ItV (itemF t.data.toList) e ∧ Below w.heap.size w w' := by
  have hzv := (zero_of_info Tryz.zeroMarks).1
  have hzi : Hid _ := (zero_of_info Tryz.zeroMarks).2
  obtain ⟨W0, hW0⟩ : ∃ W0, W0 = w.alloc (.cells (marksArr fun _ => false) 141) := ⟨_, rfl⟩
  have hr0 : W0.heap[w.heap.size]? = some (.cells (marksArr fun _ => false) 141 (0, 0)) := by rw [hW0]; exact heap_alloc_new _ _
  have hb0 : Below w.heap.size w W0 := by rw [hW0]; exact (Below.refl _ _).alloc (Nat.le_refl _) _
  have hm0 : W0.cell? ⟨1, 0, none⟩ = some (.int .i64 m) := by rw [World.cell?_of_block (w := w) (hb0.block 1 hm1)]; exact hm
  have hm01 : 1 < W0.heap.size := Nat.lt_of_lt_of_le hm1 hb0.size
  have hP : Calls Tryz.prog 71 #[.string t, .string ⟨#[91, 58]⟩] W0 fun e w' => e = .returned (.bool (decide (atL t.data.toList 0 = 91 ∧ atL t.data.toList 1 = 58))) ∧ w' = W0 := hasPrefix2_ok t 91 58 W0 hs
  by_cases hp : atL t.data.toList 0 = 91 ∧ atL t.data.toList 1 = 58
  · rw [decide_eq_true hp] at hP
    have h2 : 2 ≤ t.size := by
      have h9 : t.data.toList.length = t.size := Array.length_toList
      have := (atL_lt (l := t.data.toList) (k := 1)).1 (by omega)
      omega
    have hC := readClass_ok hcm t m W0 hs h2 hm0 hm01
    have hI := itemC_class hp.1 hp.2
    rw [← hI] at hC
    have HI := hid hI
    clear hI hp hm hm0
    go_enter Tryz.func73, Tryz.ntmps73
    go_wp2_with fail
    rw [← hW0]
    clear hW0
    refine hP.mono ?_
    rintro e w1 ⟨rfl, hw1⟩
    rw [hw1]
    clear hw1 w1 hP
    go_wp2_with fail
    refine hC.mono ?_
    rintro e w2 ⟨hV, hb2⟩
    have hr2 := row_below hr0 hb2
    have hbb2 := below_step hb0 hb0.size hb2
    clear hC
    cases hi : itemF t.data.toList with
    | none =>
      rw [hi] at hV
      have hV2 : e = .returned (.tuple #[.agg (marksArr fun _ => false), .int .i64 0]) := hV
      subst hV2
      have hst := marks_store (fun _ => false) hr2
      have hsz := marksArr_size (fun _ => false)
      have HV := hid hi
      clear hi hV
      go_wp2
      exact bodyPost_ret (v := .tuple #[.agg (marksArr fun _ => false), .int .i64 0]) (results_cell_slot Tryz.results73 _ _ w.heap.size 141 _ (0, 0) _ _ rfl rfl (setRow_heap _ _ _ _ _ _ hr2) Tryz.underlying141 rfl (by rw [marksArr_size]; exact hzi.out)) rfl ⟨.none HV.out, Below.setRow hbb2 (Nat.le_refl _) _⟩
    | some fk =>
      obtain ⟨f, k⟩ := fk
      rw [hi] at hV
      have hV2 : e = .returned (.tuple #[.agg (marksArr f), .int .i64 (k : Int)]) := hV
      subst hV2
      have hst := marks_store f hr2
      have hsz := marksArr_size f
      have HV := hid hi
      clear hi hV
      go_wp2
      exact bodyPost_ret (v := .tuple #[.agg (marksArr f), .int .i64 (k : Int)]) (results_cell_slot Tryz.results73 _ _ w.heap.size 141 _ (0, 0) _ _ rfl rfl (setRow_heap _ _ _ _ _ _ hr2) Tryz.underlying141 rfl (by rw [marksArr_size]; exact hzi.out)) rfl ⟨.some HV.out rfl, Below.setRow hbb2 (Nat.le_refl _) _⟩
  rw [decide_eq_false hp] at hP
  have hN := namesElement_ok t W0 hs
  cases he : elemB t.data.toList with
  | true =>
    have hI := itemC_elem hp he
    rw [he] at hN
    have HI := hid hI
    have hst := marks_store (fun _ => false) hr0
    have hsz := marksArr_size (fun _ => false)
    clear hI hp hm hm0 he
    go_enter Tryz.func73, Tryz.ntmps73
    go_wp2_with fail
    rw [← hW0]
    clear hW0
    refine hP.mono ?_
    rintro e w1 ⟨rfl, hw1⟩
    rw [hw1]
    clear hw1 w1 hP
    go_wp2_with fail
    refine hN.mono ?_
    rintro e w1 ⟨rfl, hw1⟩
    rw [hw1]
    clear hw1 w1 hN
    go_wp2
    exact bodyPost_ret (v := .tuple #[.agg (marksArr fun _ => false), .int .i64 0]) (results_cell_slot Tryz.results73 _ _ w.heap.size 141 _ (0, 0) _ _ rfl rfl (setRow_heap _ _ _ _ _ _ hr0) Tryz.underlying141 rfl (by rw [marksArr_size]; exact hzi.out)) rfl ⟨.none HI.out, Below.setRow hb0 (Nat.le_refl _) _⟩
  | false =>
    rw [he] at hN
    have hz0 : (0 : Int) < (t.size : Int) := by omega
    have hc := t[0].toNat_lt
    have a0 := atL_byte h1
    have he2 : ¬(atL t.data.toList 0 = 91 ∧ (atL t.data.toList 1 = 46 ∨ atL t.data.toList 1 = 61)) := by
      intro h9
      unfold elemB at he
      simp at he
      omega
    have hI0 : ∀ r, (if atL t.data.toList 1 = 45 ∧ 0 ≤ atL t.data.toList 2 ∧ atL t.data.toList 2 ≠ 93 then (if (atL t.data.toList 2 = 91 ∧ (atL t.data.toList 3 = 46 ∨ atL t.data.toList 3 = 61 ∨ atL t.data.toList 3 = 58)) ∨ atL t.data.toList 2 < atL t.data.toList 0 then none else some (rangeB (atL t.data.toList 0) (atL t.data.toList 2), 3)) else some (rangeB (atL t.data.toList 0) (atL t.data.toList 0), 1)) = r → itemF t.data.toList = r := fun r h => by
      unfold itemF
      rw [if_neg hp, if_neg he2]
      exact h
    have hlen : t.data.toList.length = t.size := Array.length_toList
    rw [a0] at hI0
    by_cases h3 : t.size < 3
    · have h3I : (t.size : Int) < 3 := by omega
      have HI := hid (hI0 _ (if_neg (by rw [atL_none (l := t.data.toList) (k := 2) (by omega)]; omega)))
      generalize hCC : (t[0].toNat : Int) = CC at *
      have hC0 : 0 ≤ CC ∧ CC ≤ 255 := by omega
      clear hI0 hp hm hm0 he he2 a0 hlen hc
      go_enter Tryz.func73, Tryz.ntmps73
      go_wp2_with fail
      rw [← hW0]
      clear hW0
      refine hP.mono ?_
      rintro e w1 ⟨rfl, hw1⟩
      rw [hw1]
      clear hw1 w1 hP
      go_wp2_with fail
      refine hN.mono ?_
      rintro e w1 ⟨rfl, hw1⟩
      rw [hw1]
      clear hw1 w1 hN
      go_wp2_with fail
      try rw [hCC]
      refine (with_ok (fun _ => false) CC CC W0 (by omega) (by omega)).mono ?_
      rintro e w2 ⟨rfl, hb2⟩
      rw [markIn_no2]
      have hr2 := row_below hr0 hb2
      have hbb2 := below_step hb0 hb0.size hb2
      generalize rangeB CC CC = F at *
      have hst := marks_store F hr2
      have hsz := marksArr_size F
      go_wp2
      exact bodyPost_ret (v := .tuple #[.agg (marksArr F), .int .i64 1]) (results_cell_slot Tryz.results73 _ _ w.heap.size 141 _ (0, 0) _ _ rfl rfl (setRow_heap _ _ _ _ _ _ hr2) Tryz.underlying141 rfl (by rw [marksArr_size]; exact hzi.out)) rfl ⟨.some HI.out rfl, Below.setRow hbb2 (Nat.le_refl _) _⟩
    have h3I : ¬(t.size : Int) < 3 := by omega
    have i1 : (1 : Int) < (t.size : Int) := by omega
    have i2 : (2 : Int) < (t.size : Int) := by omega
    have i2b : (2 : Int) ≤ (t.size : Int) := by omega
    have hk1 : 1 < t.size := by omega
    have hk2 : 2 < t.size := by omega
    have a1 := atL_byte (t := t) (k := 1) hk1
    have a2 := atL_byte (t := t) (k := 2) hk2
    have hd := (t[2]'hk2).toNat_lt
    obtain ⟨R, hR⟩ : ∃ R, R = t.extract 2 t.size := ⟨_, rfl⟩
    have hRl : R.data.toList = t.data.toList.drop 2 := by
      rw [hR, ext_list]
      exact List.take_of_length_le (by rw [List.length_drop, Array.length_toList]; exact Nat.le_refl _)
    have hRs : R.size ≤ 2000 := by
      have h9 : R.data.toList.length = R.size := Array.length_toList
      rw [hRl, List.length_drop] at h9
      omega
    have hN2 := namesElement_ok R W0 hRs
    have hRe : elemB R.data.toList = decide (atL t.data.toList 2 = 91 ∧ (atL t.data.toList 3 = 46 ∨ atL t.data.toList 3 = 61 ∨ atL t.data.toList 3 = 58)) := by unfold elemB; rw [hRl, atL_drop, atL_drop]
    rw [hRe] at hN2
    rw [a1, a2] at hI0
    rw [a2] at hN2
    generalize hCC : (t[0].toNat : Int) = CC at *
    generalize hBB : ((t[1]'hk1).toNat : Int) = BB at *
    generalize hDD : ((t[2]'hk2).toNat : Int) = DD at *
    generalize atL t.data.toList 3 = TT at *
    have hC0 : 0 ≤ CC ∧ CC ≤ 255 := by omega
    have hD0 : 0 ≤ DD ∧ DD ≤ 255 := by omega
    clear hp hm hm0 he he2 a0 a1 a2 hlen hc hd hRl hRe
    by_cases hb : BB = 45
    case neg =>
      have HI := hid (hI0 _ (if_neg (by omega)))
      have hbb : (BB != 45) = true := by simpa using hb
      clear hI0 hb hN2 hR
      go_enter Tryz.func73, Tryz.ntmps73
      go_wp2_with fail
      rw [← hW0]
      clear hW0
      refine hP.mono ?_
      rintro e w1 ⟨rfl, hw1⟩
      rw [hw1]
      clear hw1 w1 hP
      go_wp2_with fail
      refine hN.mono ?_
      rintro e w1 ⟨rfl, hw1⟩
      rw [hw1]
      clear hw1 w1 hN
      go_wp2_with fail
      try rw [hCC]
      try rw [hDD]
      refine (with_ok (fun _ => false) CC CC W0 (by omega) (by omega)).mono ?_
      rintro e w2 ⟨rfl, hb2⟩
      rw [markIn_no2]
      have hr2 := row_below hr0 hb2
      have hbb2 := below_step hb0 hb0.size hb2
      generalize rangeB CC CC = F at *
      have hst := marks_store F hr2
      have hsz := marksArr_size F
      go_wp2
      exact bodyPost_ret (v := .tuple #[.agg (marksArr F), .int .i64 1]) (results_cell_slot Tryz.results73 _ _ w.heap.size 141 _ (0, 0) _ _ rfl rfl (setRow_heap _ _ _ _ _ _ hr2) Tryz.underlying141 rfl (by rw [marksArr_size]; exact hzi.out)) rfl ⟨.some HI.out rfl, Below.setRow hbb2 (Nat.le_refl _) _⟩
    have hbb : (BB != 45) = false := by simpa using hb
    by_cases hdd : DD = 93
    · have HI := hid (hI0 _ (if_neg (by omega)))
      have hde : (DD == 93) = true := by simpa using hdd
      clear hI0 hb hdd hN2 hR
      go_enter Tryz.func73, Tryz.ntmps73
      go_wp2_with fail
      rw [← hW0]
      clear hW0
      refine hP.mono ?_
      rintro e w1 ⟨rfl, hw1⟩
      rw [hw1]
      clear hw1 w1 hP
      go_wp2_with fail
      refine hN.mono ?_
      rintro e w1 ⟨rfl, hw1⟩
      rw [hw1]
      clear hw1 w1 hN
      go_wp2_with fail
      try rw [hCC]
      try rw [hDD]
      refine (with_ok (fun _ => false) CC CC W0 (by omega) (by omega)).mono ?_
      rintro e w2 ⟨rfl, hb2⟩
      rw [markIn_no2]
      have hr2 := row_below hr0 hb2
      have hbb2 := below_step hb0 hb0.size hb2
      generalize rangeB CC CC = F at *
      have hst := marks_store F hr2
      have hsz := marksArr_size F
      go_wp2
      exact bodyPost_ret (v := .tuple #[.agg (marksArr F), .int .i64 1]) (results_cell_slot Tryz.results73 _ _ w.heap.size 141 _ (0, 0) _ _ rfl rfl (setRow_heap _ _ _ _ _ _ hr2) Tryz.underlying141 rfl (by rw [marksArr_size]; exact hzi.out)) rfl ⟨.some HI.out rfl, Below.setRow hbb2 (Nat.le_refl _) _⟩
    have hde : (DD == 93) = false := by simpa using hdd
    have hI1 := fun r (h : _ = r) => hI0 r ((if_pos (show BB = 45 ∧ 0 ≤ DD ∧ DD ≠ 93 by omega)).trans h)
    clear hI0
    have hst := marks_store (fun _ => false) hr0
    have hsz := marksArr_size (fun _ => false)
    by_cases hlt : DD < CC
    · have HI := hid (hI1 _ (if_pos (.inr hlt)))
      have hltb : decide (DD < CC) = true := decide_eq_true hlt
      clear hI1 hb hdd hN2 hR
      go_enter Tryz.func73, Tryz.ntmps73
      go_wp2_with fail
      rw [← hW0]
      clear hW0
      refine hP.mono ?_
      rintro e w1 ⟨rfl, hw1⟩
      rw [hw1]
      clear hw1 w1 hP
      go_wp2_with fail
      refine hN.mono ?_
      rintro e w1 ⟨rfl, hw1⟩
      rw [hw1]
      clear hw1 w1 hN
      go_wp2
      exact bodyPost_ret (v := .tuple #[.agg (marksArr fun _ => false), .int .i64 0]) (results_cell_slot Tryz.results73 _ _ w.heap.size 141 _ (0, 0) _ _ rfl rfl (setRow_heap _ _ _ _ _ _ hr0) Tryz.underlying141 rfl (by rw [marksArr_size]; exact hzi.out)) rfl ⟨.none HI.out, Below.setRow hb0 (Nat.le_refl _) _⟩
    have hltb : decide (DD < CC) = false := decide_eq_false hlt
    by_cases hel : DD = 91 ∧ (TT = 46 ∨ TT = 61 ∨ TT = 58)
    · have HI := hid (hI1 _ (if_pos (.inl hel)))
      rw [decide_eq_true hel] at hN2
      clear hI1 hb hdd hel
      go_enter Tryz.func73, Tryz.ntmps73
      go_wp2_with fail
      rw [← hW0]
      clear hW0
      refine hP.mono ?_
      rintro e w1 ⟨rfl, hw1⟩
      rw [hw1]
      clear hw1 w1 hP
      go_wp2_with fail
      refine hN.mono ?_
      rintro e w1 ⟨rfl, hw1⟩
      rw [hw1]
      clear hw1 w1 hN
      go_wp2_with fail
      try rw [← hR]
      clear hR
      refine hN2.mono ?_
      rintro e w1 ⟨rfl, hw1⟩
      rw [hw1]
      clear hw1 w1 hN2
      go_wp2
      exact bodyPost_ret (v := .tuple #[.agg (marksArr fun _ => false), .int .i64 0]) (results_cell_slot Tryz.results73 _ _ w.heap.size 141 _ (0, 0) _ _ rfl rfl (setRow_heap _ _ _ _ _ _ hr0) Tryz.underlying141 rfl (by rw [marksArr_size]; exact hzi.out)) rfl ⟨.none HI.out, Below.setRow hb0 (Nat.le_refl _) _⟩
    · have HI := hid (hI1 _ (if_neg (by omega)))
      rw [decide_eq_false hel] at hN2
      clear hI1 hb hdd hel hst hsz
      go_enter Tryz.func73, Tryz.ntmps73
      go_wp2_with fail
      rw [← hW0]
      clear hW0
      refine hP.mono ?_
      rintro e w1 ⟨rfl, hw1⟩
      rw [hw1]
      clear hw1 w1 hP
      go_wp2_with fail
      refine hN.mono ?_
      rintro e w1 ⟨rfl, hw1⟩
      rw [hw1]
      clear hw1 w1 hN
      go_wp2_with fail
      try rw [← hR]
      clear hR
      refine hN2.mono ?_
      rintro e w1 ⟨rfl, hw1⟩
      rw [hw1]
      clear hw1 w1 hN2
      go_wp2_with fail
      try rw [hCC]
      try rw [hDD]
      refine (with_ok (fun _ => false) CC DD W0 (by omega) (by omega)).mono ?_
      rintro e w2 ⟨rfl, hb2⟩
      rw [markIn_no2]
      have hr2 := row_below hr0 hb2
      have hbb2 := below_step hb0 hb0.size hb2
      generalize rangeB CC DD = F at *
      have hst := marks_store F hr2
      have hsz := marksArr_size F
      go_wp2
      exact bodyPost_ret (v := .tuple #[.agg (marksArr F), .int .i64 3]) (results_cell_slot Tryz.results73 _ _ w.heap.size 141 _ (0, 0) _ _ rfl rfl (setRow_heap _ _ _ _ _ _ hr2) Tryz.underlying141 rfl (by rw [marksArr_size]; exact hzi.out)) rfl ⟨.some HI.out rfl, Below.setRow hbb2 (Nat.le_refl _) _⟩
end Go.Proofs.YtgbdlgogccgciaaGreatDoor
