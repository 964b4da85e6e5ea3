import Derived.Test.YtgbdlgogccgciaaGreatDoorPgW
namespace Go.Proofs.YtgbdlgogccgciaaGreatDoor
open Go.RowKit
attribute [local go_sem ↓] Go.wp_at_zero Go.wp_at_succ

/- A BRACKET, THE CODE's SIDE. -/
theorem item_some {l : List UInt8} {f : Nat → Bool} {k : Nat} (hl : 0 < l.length) (h : itemF l = some (f, k)) : ∃ c, c < 256 ∧ f c = true := by
  have h0 := (atL_lt (l := l) (k := 0)).2 hl
  have hb := (atL_bd l 0).2
  have key : ∀ d, atL l 0 ≤ d → ∃ c, c < 256 ∧ rangeB (atL l 0) d c = true := fun d hd => ⟨(atL l 0).toNat, by omega, by unfold rangeB; simp; omega⟩
  unfold itemF at h
  split at h
  · split at h
    · cases h
    · split at h
      · cases h
      · rename_i hc; cases h; exact class_some hc
  · split at h
    · cases h
    · split at h
      · split at h
        · cases h
        · rename_i hq; cases h; exact key _ (by omega)
      · cases h; exact key _ (Int.le_refl _)
theorem cut2_len4 {c d : UInt8} : ∀ {l q r : List UInt8}, cut2 c d l = some (q, r) → q.length + 2 ≤ l.length
  | [], q, r, h => by simp [cut2] at h
  | x :: l, q, r, h => by
    unfold cut2 at h
    split at h
    · rename_i hx
      cases h
      cases l with
      | nil => simp at hx
      | cons y l => simp
    · cases hc : cut2 c d l with
      | none => rw [hc] at h; cases h
      | some p =>
        obtain ⟨a, b⟩ := p
        rw [hc] at h
        cases h
        have := cut2_len4 hc
        simp
        omega
theorem itemF_len {l : List UInt8} {f : Nat → Bool} {k : Nat} (hl : 0 < l.length) (h : itemF l = some (f, k)) : k ≤ l.length := by
  have h2 := atL_lt (l := l) (k := 2)
  unfold itemF at h
  split at h
  · split at h
    · cases h
    · rename_i name r hc
      split at h
      · cases h
      · cases h
        have h9 := cut2_len4 hc
        rw [List.length_drop] at h9
        omega
  · split at h
    · cases h
    · split at h
      · split at h
        · cases h
        · rename_i hq _
          cases h
          have := h2.1 hq.2.1
          omega
      · cases h
        omega
theorem eqM_or {f g : Nat → Bool} {c : Nat} (hc : c < 256) (hg : g c = true) : eqM (orB f g) (fun _ => false) = false := eqM_false hc (by unfold orB; rw [hg]; simp)
/-- Where the items stand. -/
structure BkI (w : World) (l : List UInt8) (i : Nat) (res : Option ((Nat → Bool) × Nat)) (r I : Nat) (wr : World) (n : Nat) (f : Nat → Bool) (fs : Bool) : Prop where
  bel : Below w.heap.size w wr
  it : wr.heap[I]? = some (.cells (marksArr f) 141 (0, 0))
  rr : wr.heap[r]? = some (.cells #[.int .i64 0, .int .i64 0, .slice none 0 0, .int .i64 0, .int .i64 0] 105 (0, 0))
  fst : eqM f (fun _ => false) = fs
  e : itemsF (l.drop (i + 1 + n)) f n fs = res
  le : i + 1 + n ≤ l.length
theorem BkI.keep {w wr W : World} {l : List UInt8} {i : Nat} {res : Option ((Nat → Bool) × Nat)} {r I n : Nat} {f : Nat → Bool} {fs : Bool} (h : BkI w l i res r I wr n f fs) (hb : Below wr.heap.size wr W) : BkI w l i res r I W n f fs :=
  ⟨below_step h.bel h.bel.size hb, row_below h.it hb, row_below h.rr hb, h.fst, h.e, h.le⟩

set_option maxRecDepth 100000 in
set_option maxHeartbeats 4000000 in
theorem readBracket_false (hcm : CmC) (t : ByteArray) (i : Nat) (m : Int) (w : World) (hi : i < t.size) (hs : t.size ≤ 2000) (h91 : atL t.data.toList i = 91) (h94 : atL t.data.toList (i + 1) ≠ 94) (hm : w.cell? ⟨1, 0, none⟩ = some (.int .i64 m)) (hm1 : 1 < w.heap.size) :
    Calls Tryz.prog 49 #[.string t, .int .i64 (i : Int)] w (RdA w i (tokF t.data.toList i)) := by
  have hzv := (zero_of_info Tryz.zeroMarks).1
  have hzi : Hid _ := (zero_of_info Tryz.zeroMarks).2
  have hlen : t.data.toList.length = t.size := Array.length_toList
  have h1 : (i : Int) + 1 ≤ (t.size : Int) := by omega
  have i2 : ((i : Int) + 1).toNat = i + 1 := by omega
  obtain ⟨res, hres⟩ : ∃ res, res = itemsF (t.data.toList.drop (i + 1 + 0)) noB 0 true := ⟨_, rfl⟩
  have ht := tokF_91 h91
  have hbr : bracketF (t.data.toList.drop (i + 1)) = res := by
    unfold bracketF
    rw [atL_drop, Nat.add_zero, if_neg h94, hres]
  rw [hbr] at ht
  obtain ⟨R, hR⟩ : ∃ R, R = t.extract (i + 1) t.size := ⟨_, rfl⟩
  have hRl : R.data.toList = t.data.toList.drop (i + 1) := by
    rw [hR, ext_list]
    exact List.take_of_length_le (by rw [List.length_drop, Array.length_toList]; exact Nat.le_refl _)
  have hRs : R.size ≤ 2000 := by
    have h9 : R.data.toList.length = R.size := Array.length_toList
    rw [hRl, List.length_drop] at h9
    omega
  obtain ⟨W0, hW0⟩ : ∃ W0, W0 = w.alloc (.cells #[.int .i64 0, .int .i64 0, .slice none 0 0, .int .i64 0, .int .i64 0] 105) := ⟨_, rfl⟩
  have hr0 : W0.heap[w.heap.size]? = some (.cells #[.int .i64 0, .int .i64 0, .slice none 0 0, .int .i64 0, .int .i64 0] 105 (0, 0)) := by rw [hW0]; exact heap_alloc_new _ _
  have hb0 : Below w.heap.size w W0 := by rw [hW0]; exact (Below.refl _ _).alloc (Nat.le_refl _) _
  have hP : Calls Tryz.prog 71 #[.string R, .string ⟨#[94]⟩] W0 fun e w' => e = .returned (.bool false) ∧ w' = W0 := by
    have h9 : Calls Tryz.prog 71 #[.string R, .string ⟨#[94]⟩] W0 fun e w' => e = .returned (.bool (decide (atL R.data.toList 0 = 94))) ∧ w' = W0 := hasPrefix1_ok R 94 W0 hRs
    rw [hRl, atL_drop, Nat.add_zero, decide_eq_false h94] at h9
    exact h9
  have hin : i + 1 + 0 ≤ t.size := by omega
  have hst := marks_store (fun _ => false) (heap_alloc_new W0 (.cells (marksArr fun _ => false) 141))
  have hsz := marksArr_size (fun _ => false)
  have hq1 := row_st W0 (fun _ => false) (fun _ => false)
  have hbs := below_st W0 (fun _ => false) (fun _ => false)
  have hqr := row_below hr0 hbs
  have hbb := below_step hb0 hb0.size hbs
  have hI0 : W0.heap.size = w.heap.size + 1 := by rw [hW0]; simp
  have HT := hid ht
  have Hres := hid hres
  have HI0 := hid hI0
  have Hqr := hid hqr
  have Hq1 := hid hq1
  have Hbb := hid hbb
  have Hlen := hid hlen
  clear ht hres hbr hRl hRs h94 h91 hqr hq1 hbb hbs hlen hI0 hr0 hb0
  go_enter Tryz.func49, Tryz.ntmps49
  go_wp2_with fail
  try rw [← hW0]
  try rw [← hR]
  clear hW0 hR
  refine hP.mono ?_
  rintro e w1 ⟨rfl, hw1⟩
  rw [hw1]
  clear hw1 w1 hP
  go_upto_region 6 with fail
  generalize (W0.alloc (.cells (marksArr fun _ => false) 141)).setRow W0.heap.size (marksArr fun _ => false) = W1 at *
  clear hst hsz
  generalize hIB : W0.heap.size = I at *
  go_loopw [7] (fun nv wr => ∃ (x n : Nat) (f : Nat → Bool) (fs : Bool), x ≤ 2000 ∧ nv = .int .i64 (x : Int) ∧ Hid (x = i + 1 + n) ∧ Hid (BkI w t.data.toList i res w.heap.size I wr n f fs)) (fun nv _ => t.size - (intOf nv).toNat)
  case atStart => exact ⟨i + 1 + 0, 0, fun _ => false, true, by omega, by go_num, rfl, ⟨Hbb.out, Hq1.out, Hqr.out, eqM_true fun _ _ => rfl, Hres.out.symm, by rw [Hlen.out]; exact hin⟩⟩
  case round =>
    obtain ⟨x, n, f, fs, hx2, rfl, HX, HB⟩ := hrel
    have HTN : res = none → Hid (tokF t.data.toList i = .inl 3) := fun h => by
      have h9 := HT.out
      rw [h] at h9
      exact h9
    have hml : ∀ W, Below w.heap.size w W → W.cell? ⟨1, 0, none⟩ = some (.int .i64 m) := fun W hW => by rw [World.cell?_of_block (w := w) (hW.block 1 hm1)]; exact hm
    by_cases hlt : x < t.size
    case neg =>
      have hxe : x = t.size := by have := HB.out.le; have := HX.out; have := Hlen.out; omega
      have hrn : res = none := by
        rw [← HB.out.e, ← HX.out, List.drop_eq_nil_of_le (by have := Hlen.out; omega)]
        exact itemsF_nil
      have hlI : ¬(x : Int) < (t.size : Int) := by omega
      have HTM := HTN hrn
      have HBL := hid HB.out.bel
      obtain ⟨r0, r1, r2, r3, r4⟩ := row_five HB.out.rr
      have fz : ∀ o, wr.frozen? ⟨w.heap.size, o, none⟩ = false := fun o => frozen_of_row _ _ _ _ _ HB.out.rr
      have g0 := fz 0
      have g1 := fz 1
      have g2 := fz 2
      have g3 := fz 3
      have g4 := fz 4
      clear fz hxe hrn HTN hml
      go_wp2
      refine bodyPost_ret (v := .tuple #[.agg #[.int .i64 0, .int .i64 0, .slice none 0 0, .int .i64 0, .int .i64 0], .int .i64 0, .iface 51 (.agg #[.int .i64 3, .int .i64 (i : Int)])]) (by simp [results, Tryz.results49, go_sem, r0, r1, r2, r3, r4]) rfl ?_
      exact .bad HTM.out (((((HBL.out.setCell (by simp) _).setCell (by simp) _).setCell (by simp) _).setCell (by simp) _).setCell (by simp) _)
    have hxI : (x : Int) < (t.size : Int) := by omega
    have hxt : ((x : Int)).toNat = x := by omega
    have ab := atL_byte hlt
    have had : atL (t.data.toList.drop x) 0 = (t[x].toNat : Int) := by rw [atL_drop, Nat.add_zero, ab]
    generalize hBB : (t[x].toNat : Int) = BB at *
    obtain ⟨bq, Hbq⟩ : ∃ bq : Bool, Hid (bq = (decide (BB = 93) && !fs)) := ⟨_, rfl⟩
    have hnx := Tryz.neqMarks f (fun _ => false)
    rw [HB.out.fst] at hnx
    have hit := HB.out.it
    go_upto_region 7 with fail
    go_cut [34] from 26 to 34 (fun v wx => v = .bool bq ∧ wx = wr)
    case first =>
      by_cases e : BB = 93
      · have eb : (BB == 93) = true := by simpa using e
        have hbq : bq = !fs := by rw [Hbq.out, decide_eq_true e]; rfl
        subst hbq
        clear e
        go_wp2_with (refine wpList_load_rowW rfl 141 (.tmp 9) rfl I rfl 141 _ (0, 0) _ hit Tryz.underlying141 rfl (by rw [marksArr_size]; exact hzi.out) ?_)
        go_meet
        case rel => exact ⟨rfl, rfl⟩
      · have eb : (BB == 93) = false := by simpa using e
        have hbq : bq = false := by rw [Hbq.out, decide_eq_false e]; rfl
        subst hbq
        clear e
        go_wp2
        go_meet
        case rel => exact ⟨rfl, rfl⟩
    obtain ⟨rfl, hwc⟩ := hcut
    rw [hwc]
    clear hwc wc
    rename_i hK0
    refine hK0 _ _ ?_
    clear hK0 hnx
    cases bq with
    | true =>
      have hq := Hbq.out
      have he93 : BB = 93 := by
        by_cases e : BB = 93
        · exact e
        · rw [decide_eq_false e] at hq; cases hq
      have hfs : fs = false := by
        rw [decide_eq_true he93] at hq
        cases fs with
        | false => rfl
        | true => cases hq
      have hrs : res = some (f, n + 1) := by
        have h9 := HB.out.e
        rw [hfs, ← HX.out, itemsF_end (by rw [had]; exact he93)] at h9
        exact h9.symm
      have HTG : Hid (tokF t.data.toList i = .inr (⟨0, i, f, 0, 0⟩, i + 1 + (n + 1))) := by
        have h9 := HT.out
        rw [hrs] at h9
        exact h9
      clear hq he93 hfs hrs HTN hml had ab Hbq
      go_wp2_with (refine wpList_load_rowW rfl 141 (.tmp 9) rfl I rfl 141 _ (0, 0) _ hit Tryz.underlying141 rfl (by rw [marksArr_size]; exact hzi.out) ?_)
      refine (atom_ok _ _ wr).mono ?_
      rintro e w3 ⟨ao, nn, cap, rfl, hR, hb3⟩
      have HBL := hid (below_step HB.out.bel HB.out.bel.size hb3)
      have hrr := row_below HB.out.rr hb3
      have HR : Hid (RngO w.heap.size w3 (.slice ao nn cap) (rngF f 256)) := ownsRow_mono hR HB.out.bel.size
      have hsr := row_lt HB.out.rr
      have HRB := hid (fun (b : Nat) (h : (Value.slice ao nn cap).ownBlock = some b) => (ownsRow_blk hR h).1)
      clear hR hb3
      obtain ⟨r0, r1, r2, r3, r4⟩ := row_five hrr
      have fz : ∀ o, w3.frozen? ⟨w.heap.size, o, none⟩ = false := fun o => frozen_of_row _ _ _ _ _ hrr
      have g0 := fz 0
      have g1 := fz 1
      have g2 := fz 2
      have g3 := fz 3
      have g4 := fz 4
      clear fz
      go_wp2
      refine bodyPost_ret (v := .tuple #[.agg #[.int .i64 0, .int .i64 i, .slice ao nn cap, .int .i64 0, .int .i64 0], .int .i64 ((x : Int) + 1), .nilIface]) (by simp [results, Tryz.results49, go_sem, r0, r1, r2, r3, r4]) rfl ?_
      refine .good HTG.out (((((HBL.out.setCell (by simp) _).setCell (by simp) _).setCell (by simp) _).setCell (by simp) _).setCell (by simp) _) ⟨ao, nn, cap, rfl, fun _ => ?_, fun h => absurd rfl h⟩ (by have := HX.out; omega)
      refine ownsRow_keep HR.out fun b hb => ?_
      have := HRB.out b hb
      have hne : b ≠ w.heap.size := by omega
      repeat rw [Below.heap_setCell _ _ _ _ hne]
    | false =>
      have hno : ¬(BB = 93 ∧ fs = false) := fun h => by
        have hq := Hbq.out
        rw [decide_eq_true h.1, h.2] at hq
        cases hq
      obtain ⟨R2, hR2⟩ : ∃ R2, R2 = t.extract x t.size := ⟨_, rfl⟩
      have hR2l : R2.data.toList = t.data.toList.drop x := by
        rw [hR2, ext_list]
        exact List.take_of_length_le (by rw [List.length_drop, Array.length_toList]; exact Nat.le_refl _)
      have h9 : R2.data.toList.length = R2.size := Array.length_toList
      have hR2s : R2.size ≤ 2000 ∧ 0 < R2.size := by
        have := Hlen.out
        rw [hR2l, List.length_drop] at h9
        omega
      have hC := readItem_ok hcm R2 m wr hR2s.1 hR2s.2 (hml wr HB.out.bel) (Nat.lt_of_lt_of_le hm1 HB.out.bel.size)
      rw [hR2l] at hC
      have hdl : 0 < (t.data.toList.drop x).length := by rw [← hR2l, h9]; exact hR2s.2
      have hdn : t.data.toList.drop x ≠ [] := List.length_pos_iff.1 hdl
      have hxb : (x : Int) ≤ (t.size : Int) := by omega
      have HE := hid HB.out.e
      rw [← HX.out] at HE
      cases hitm : itemF (t.data.toList.drop x) with
      | none =>
        have hrn : res = none := by
          rw [← HE.out]
          exact itemsF_bad (by rw [had]; exact hno) hitm
        have HTM := HTN hrn
        rw [hitm] at hC
        have hC2 : Calls Tryz.prog 73 #[.string R2] wr fun e w' => e = .returned (.tuple #[.agg (marksArr noB), .int .i64 0]) ∧ Below wr.heap.size wr w' := hC
        generalize noB = NB at hC2
        clear hC hno hR2l h9 hR2s hdl hdn hitm hrn HTN hml had ab Hbq
        go_wp2_with fail
        try rw [← hR2]
        clear hR2
        refine hC2.mono ?_
        rintro e w3 ⟨rfl, hb3⟩
        have HB3 := HB.out.keep hb3
        clear hC2
        go_upto_region 12 with (refine wpList_store_row rfl 141 (.tmp 10) _ rfl w3.heap.size _ rfl rfl 141 _ (heap_alloc_new _ _) (by rw [marksArr_size]; exact hzi.out) (by rw [marksArr_size, marksArr_size]) (marksArr_one _) ?_)
        have HB4 := HB3.keep (below_st w3 (fun _ => false) NB)
        generalize (w3.alloc (.cells (marksArr fun _ => false) 141)).setRow w3.heap.size (marksArr NB) = W4 at *
        have HBL := hid HB4.bel
        have hrr := HB4.rr
        clear HB3 HB4
        obtain ⟨r0, r1, r2, r3, r4⟩ := row_five hrr
        have fz : ∀ o, W4.frozen? ⟨w.heap.size, o, none⟩ = false := fun o => frozen_of_row _ _ _ _ _ hrr
        have g0 := fz 0
        have g1 := fz 1
        have g2 := fz 2
        have g3 := fz 3
        have g4 := fz 4
        clear fz
        go_wp2
        refine bodyPost_ret (v := .tuple #[.agg #[.int .i64 0, .int .i64 0, .slice none 0 0, .int .i64 0, .int .i64 0], .int .i64 0, .iface 51 (.agg #[.int .i64 3, .int .i64 (i : Int)])]) (by simp [results, Tryz.results49, go_sem, r0, r1, r2, r3, r4]) rfl ?_
        exact .bad HTM.out (((((HBL.out.setCell (by simp) _).setCell (by simp) _).setCell (by simp) _).setCell (by simp) _).setCell (by simp) _)
      | some gk =>
        obtain ⟨g, k⟩ := gk
        have hk0 := itemF_pos hitm
        have hkl := itemF_len hdl hitm
        obtain ⟨cc, hcc, hgc⟩ := item_some hdl hitm
        have HE2 : Hid (itemsF (t.data.toList.drop (i + 1 + (n + k))) (orB f g) (n + k) false = res) := by
          have h8 := HE.out
          rw [itemsF_one hdn (by rw [had]; exact hno) hitm, List.drop_drop, HX.out] at h8
          show _ = _
          rw [show i + 1 + (n + k) = i + 1 + n + k by omega]
          exact h8
        have HQ := hid (eqM_or (f := f) hcc hgc)
        have hkl2 : x + k ≤ t.size := by have := Hlen.out; rw [List.length_drop] at hkl; omega
        rw [hitm] at hC
        have hC2 : Calls Tryz.prog 73 #[.string R2] wr fun e w' => e = .returned (.tuple #[.agg (marksArr g), .int .i64 (k : Int)]) ∧ Below wr.heap.size wr w' := hC
        have hkb : ((k : Int) == 0) = false := by simp; omega
        clear hC hno hR2l h9 hR2s hdl hdn hitm HTN hml had ab Hbq hkl hcc hgc HE
        go_wp2_with fail
        try rw [← hR2]
        clear hR2
        refine hC2.mono ?_
        rintro e w3 ⟨rfl, hb3⟩
        have HB3 := HB.out.keep hb3
        clear hC2
        go_upto_region 12 with (refine wpList_store_row rfl 141 (.tmp 10) _ rfl w3.heap.size _ rfl rfl 141 _ (heap_alloc_new _ _) (by rw [marksArr_size]; exact hzi.out) (by rw [marksArr_size, marksArr_size]) (marksArr_one _) ?_)
        have HB4 := HB3.keep (below_st w3 (fun _ => false) g)
        have hq4 := row_st w3 (fun _ => false) g
        generalize (w3.alloc (.cells (marksArr fun _ => false) 141)).setRow w3.heap.size (marksArr g) = W4 at *
        have hit4 := HB4.it
        have HBX := hid HB4
        clear HB3 HB4 hit
        generalize w3.heap.size = J at *
        go_wp2_with (first | (refine wpList_load_rowW rfl 141 (.tmp 9) rfl I rfl 141 _ (0, 0) _ hit4 Tryz.underlying141 rfl (by rw [marksArr_size]; exact hzi.out) ?_) | (refine wpList_load_rowW rfl 141 (.tmp 10) rfl J rfl 141 _ (0, 0) _ hq4 Tryz.underlying141 rfl (by rw [marksArr_size]; exact hzi.out) ?_) | fail)
        refine (joined_ok f g W4).mono ?_
        rintro e w5 ⟨rfl, hb5⟩
        have HB5 := HBX.out.keep hb5
        have hit5 := HB5.it
        have hI1 : w.heap.size < I := by have := HI0.out; omega
        have HB6 : ∀ W6, W6 = w5.setRow I (marksArr (orB f g)) → Hid (BkI w t.data.toList i res w.heap.size I W6 (n + k) (orB f g) false) := by
          intro W6 hW6
          have hb6 : Below I w5 W6 := by rw [hW6]; exact Below.setRow (Below.refl _ _) (Nat.le_refl _) _
          refine ⟨by rw [hW6]; exact Below.setRow HB5.bel (by omega) _, by rw [hW6]; exact setRow_heap _ _ _ _ _ _ hit5, by rw [hb6.block _ hI1]; exact HB5.rr, HQ.out, HE2.out, by have := Hlen.out; have := HX.out; omega⟩
        have HXK := hid (show x + k = i + 1 + (n + k) by have := HX.out; omega)
        clear HB5 hb5 hit4 hq4
        go_wp2_with (first | (refine wpList_store_row rfl 141 (.tmp 9) _ rfl I _ rfl rfl 141 _ hit5 (by rw [marksArr_size]; exact hzi.out) (by rw [marksArr_size, marksArr_size]) (marksArr_one _) ?_) | fail)
        go_roundw
        case rel => exact ⟨x + k, n + k, orB f g, false, by omega, by go_num, HXK, HB6 _ rfl⟩
        case measure => simp [intOf]; omega

set_option maxRecDepth 100000 in
set_option maxHeartbeats 4000000 in
theorem readBracket_true (hcm : CmC) (t : ByteArray) (i : Nat) (m : Int) (w : World) (hi : i < t.size) (hs : t.size ≤ 2000) (h91 : atL t.data.toList i = 91) (h94 : atL t.data.toList (i + 1) = 94) (hm : w.cell? ⟨1, 0, none⟩ = some (.int .i64 m)) (hm1 : 1 < w.heap.size) :
    Calls Tryz.prog 49 #[.string t, .int .i64 (i : Int)] w (RdA w i (tokF t.data.toList i)) := by
  have hzv := (zero_of_info Tryz.zeroMarks).1
  have hzi : Hid _ := (zero_of_info Tryz.zeroMarks).2
  have hlen : t.data.toList.length = t.size := Array.length_toList
  have h1 : (i : Int) + 1 ≤ (t.size : Int) := by omega
  have i2 : ((i : Int) + 1).toNat = i + 1 := by omega
  obtain ⟨res, hres⟩ : ∃ res, res = itemsF (t.data.toList.drop (i + 1 + 1)) noB 1 true := ⟨_, rfl⟩
  have ht := tokF_91 h91
  have hbr : bracketF (t.data.toList.drop (i + 1)) = res.map fun q => (notB q.1, q.2) := by
    unfold bracketF
    rw [atL_drop, Nat.add_zero, if_pos h94, List.drop_drop, hres]
  rw [hbr] at ht
  obtain ⟨R, hR⟩ : ∃ R, R = t.extract (i + 1) t.size := ⟨_, rfl⟩
  have hRl : R.data.toList = t.data.toList.drop (i + 1) := by
    rw [hR, ext_list]
    exact List.take_of_length_le (by rw [List.length_drop, Array.length_toList]; exact Nat.le_refl _)
  have hRs : R.size ≤ 2000 := by
    have h9 : R.data.toList.length = R.size := Array.length_toList
    rw [hRl, List.length_drop] at h9
    omega
  obtain ⟨W0, hW0⟩ : ∃ W0, W0 = w.alloc (.cells #[.int .i64 0, .int .i64 0, .slice none 0 0, .int .i64 0, .int .i64 0] 105) := ⟨_, rfl⟩
  have hr0 : W0.heap[w.heap.size]? = some (.cells #[.int .i64 0, .int .i64 0, .slice none 0 0, .int .i64 0, .int .i64 0] 105 (0, 0)) := by rw [hW0]; exact heap_alloc_new _ _
  have hb0 : Below w.heap.size w W0 := by rw [hW0]; exact (Below.refl _ _).alloc (Nat.le_refl _) _
  have hP : Calls Tryz.prog 71 #[.string R, .string ⟨#[94]⟩] W0 fun e w' => e = .returned (.bool true) ∧ w' = W0 := by
    have h9 : Calls Tryz.prog 71 #[.string R, .string ⟨#[94]⟩] W0 fun e w' => e = .returned (.bool (decide (atL R.data.toList 0 = 94))) ∧ w' = W0 := hasPrefix1_ok R 94 W0 hRs
    rw [hRl, atL_drop, Nat.add_zero, decide_eq_true h94] at h9
    exact h9
  have hin : i + 1 + 1 ≤ t.size := by have := (atL_lt (l := t.data.toList) (k := i + 1)).1 (by omega); omega
  have hst := marks_store (fun _ => false) (heap_alloc_new W0 (.cells (marksArr fun _ => false) 141))
  have hsz := marksArr_size (fun _ => false)
  have hq1 := row_st W0 (fun _ => false) (fun _ => false)
  have hbs := below_st W0 (fun _ => false) (fun _ => false)
  have hqr := row_below hr0 hbs
  have hbb := below_step hb0 hb0.size hbs
  have hI0 : W0.heap.size = w.heap.size + 1 := by rw [hW0]; simp
  have HT := hid ht
  have Hres := hid hres
  have HI0 := hid hI0
  have Hqr := hid hqr
  have Hq1 := hid hq1
  have Hbb := hid hbb
  have Hlen := hid hlen
  clear ht hres hbr hRl hRs h94 h91 hqr hq1 hbb hbs hlen hI0 hr0 hb0
  go_enter Tryz.func49, Tryz.ntmps49
  go_wp2_with fail
  try rw [← hW0]
  try rw [← hR]
  clear hW0 hR
  refine hP.mono ?_
  rintro e w1 ⟨rfl, hw1⟩
  rw [hw1]
  clear hw1 w1 hP
  go_upto_region 6 with fail
  generalize (W0.alloc (.cells (marksArr fun _ => false) 141)).setRow W0.heap.size (marksArr fun _ => false) = W1 at *
  clear hst hsz
  generalize hIB : W0.heap.size = I at *
  go_loopw [7] (fun nv wr => ∃ (x n : Nat) (f : Nat → Bool) (fs : Bool), x ≤ 2000 ∧ nv = .int .i64 (x : Int) ∧ Hid (x = i + 1 + n) ∧ Hid (BkI w t.data.toList i res w.heap.size I wr n f fs)) (fun nv _ => t.size - (intOf nv).toNat)
  case atStart => exact ⟨i + 1 + 1, 1, fun _ => false, true, by omega, by go_num, rfl, ⟨Hbb.out, Hq1.out, Hqr.out, eqM_true fun _ _ => rfl, Hres.out.symm, by rw [Hlen.out]; exact hin⟩⟩
  case round =>
    obtain ⟨x, n, f, fs, hx2, rfl, HX, HB⟩ := hrel
    have HTN : res = none → Hid (tokF t.data.toList i = .inl 3) := fun h => by
      have h9 := HT.out
      rw [h] at h9
      exact h9
    have hml : ∀ W, Below w.heap.size w W → W.cell? ⟨1, 0, none⟩ = some (.int .i64 m) := fun W hW => by rw [World.cell?_of_block (w := w) (hW.block 1 hm1)]; exact hm
    by_cases hlt : x < t.size
    case neg =>
      have hxe : x = t.size := by have := HB.out.le; have := HX.out; have := Hlen.out; omega
      have hrn : res = none := by
        rw [← HB.out.e, ← HX.out, List.drop_eq_nil_of_le (by have := Hlen.out; omega)]
        exact itemsF_nil
      have hlI : ¬(x : Int) < (t.size : Int) := by omega
      have HTM := HTN hrn
      have HBL := hid HB.out.bel
      obtain ⟨r0, r1, r2, r3, r4⟩ := row_five HB.out.rr
      have fz : ∀ o, wr.frozen? ⟨w.heap.size, o, none⟩ = false := fun o => frozen_of_row _ _ _ _ _ HB.out.rr
      have g0 := fz 0
      have g1 := fz 1
      have g2 := fz 2
      have g3 := fz 3
      have g4 := fz 4
      clear fz hxe hrn HTN hml
      go_wp2
      refine bodyPost_ret (v := .tuple #[.agg #[.int .i64 0, .int .i64 0, .slice none 0 0, .int .i64 0, .int .i64 0], .int .i64 0, .iface 51 (.agg #[.int .i64 3, .int .i64 (i : Int)])]) (by simp [results, Tryz.results49, go_sem, r0, r1, r2, r3, r4]) rfl ?_
      exact .bad HTM.out (((((HBL.out.setCell (by simp) _).setCell (by simp) _).setCell (by simp) _).setCell (by simp) _).setCell (by simp) _)
    have hxI : (x : Int) < (t.size : Int) := by omega
    have hxt : ((x : Int)).toNat = x := by omega
    have ab := atL_byte hlt
    have had : atL (t.data.toList.drop x) 0 = (t[x].toNat : Int) := by rw [atL_drop, Nat.add_zero, ab]
    generalize hBB : (t[x].toNat : Int) = BB at *
    obtain ⟨bq, Hbq⟩ : ∃ bq : Bool, Hid (bq = (decide (BB = 93) && !fs)) := ⟨_, rfl⟩
    have hnx := Tryz.neqMarks f (fun _ => false)
    rw [HB.out.fst] at hnx
    have hit := HB.out.it
    go_upto_region 7 with fail
    go_cut [34] from 26 to 34 (fun v wx => v = .bool bq ∧ wx = wr)
    case first =>
      by_cases e : BB = 93
      · have eb : (BB == 93) = true := by simpa using e
        have hbq : bq = !fs := by rw [Hbq.out, decide_eq_true e]; rfl
        subst hbq
        clear e
        go_wp2_with (refine wpList_load_rowW rfl 141 (.tmp 9) rfl I rfl 141 _ (0, 0) _ hit Tryz.underlying141 rfl (by rw [marksArr_size]; exact hzi.out) ?_)
        go_meet
        case rel => exact ⟨rfl, rfl⟩
      · have eb : (BB == 93) = false := by simpa using e
        have hbq : bq = false := by rw [Hbq.out, decide_eq_false e]; rfl
        subst hbq
        clear e
        go_wp2
        go_meet
        case rel => exact ⟨rfl, rfl⟩
    obtain ⟨rfl, hwc⟩ := hcut
    rw [hwc]
    clear hwc wc
    rename_i hK0
    refine hK0 _ _ ?_
    clear hK0 hnx
    cases bq with
    | true =>
      have hq := Hbq.out
      have he93 : BB = 93 := by
        by_cases e : BB = 93
        · exact e
        · rw [decide_eq_false e] at hq; cases hq
      have hfs : fs = false := by
        rw [decide_eq_true he93] at hq
        cases fs with
        | false => rfl
        | true => cases hq
      have hrs : res = some (f, n + 1) := by
        have h9 := HB.out.e
        rw [hfs, ← HX.out, itemsF_end (by rw [had]; exact he93)] at h9
        exact h9.symm
      have HTG : Hid (tokF t.data.toList i = .inr (⟨0, i, notB f, 0, 0⟩, i + 1 + (n + 1))) := by
        have h9 := HT.out
        rw [hrs] at h9
        exact h9
      clear hq he93 hfs hrs HTN hml had ab Hbq
      go_wp2_with (refine wpList_load_rowW rfl 141 (.tmp 9) rfl I rfl 141 _ (0, 0) _ hit Tryz.underlying141 rfl (by rw [marksArr_size]; exact hzi.out) ?_)
      refine (complement_ok f wr).mono ?_
      rintro e w3 ⟨rfl, hb3⟩
      have hit3 := row_below hit hb3
      have hIl := row_lt hit3
      obtain ⟨W4, hW4⟩ : ∃ W4, W4 = w3.setRow I (marksArr (notB f)) := ⟨_, rfl⟩
      have hit4 : W4.heap[I]? = some (.cells (marksArr (notB f)) 141 (0, 0)) := by rw [hW4]; exact setRow_heap _ _ _ _ _ _ hit3
      have hI1 : w.heap.size < I := by have := HI0.out; omega
      have hb4 : Below I w3 W4 := by rw [hW4]; exact Below.setRow (Below.refl _ _) (Nat.le_refl _) _
      have hrr4 : W4.heap[w.heap.size]? = some (.cells #[.int .i64 0, .int .i64 0, .slice none 0 0, .int .i64 0, .int .i64 0] 105 (0, 0)) := by rw [hb4.block _ hI1]; exact row_below HB.out.rr hb3
      have hbl3 := below_step HB.out.bel HB.out.bel.size hb3
      have hbl4 : Below w.heap.size w W4 := by rw [hW4]; exact Below.setRow hbl3 (by omega) _
      have hst := marks_store (notB f) hit3
      have hsz := marksArr_size (notB f)
      rw [← hW4] at hst
      clear hb3 hit3 hb4 hbl3 hW4 hit hIl
      go_wp2_with (first | (refine wpList_load_rowW rfl 141 (.tmp 9) rfl I rfl 141 _ (0, 0) _ hit4 Tryz.underlying141 rfl (by rw [marksArr_size]; exact hzi.out) ?_) | fail)
      refine (atom_ok _ _ W4).mono ?_
      rintro e w5 ⟨ao, nn, cap, rfl, hR, hb5⟩
      have HBL := hid (below_step hbl4 hbl4.size hb5)
      have hrr := row_below hrr4 hb5
      have HR : Hid (RngO w.heap.size w5 (.slice ao nn cap) (rngF (notB f) 256)) := ownsRow_mono hR hbl4.size
      have hsr := row_lt hrr4
      have HRB := hid (fun (b : Nat) (h : (Value.slice ao nn cap).ownBlock = some b) => (ownsRow_blk hR h).1)
      clear hR hb5
      obtain ⟨r0, r1, r2, r3, r4⟩ := row_five hrr
      have fz : ∀ o, w5.frozen? ⟨w.heap.size, o, none⟩ = false := fun o => frozen_of_row _ _ _ _ _ hrr
      have g0 := fz 0
      have g1 := fz 1
      have g2 := fz 2
      have g3 := fz 3
      have g4 := fz 4
      clear fz
      go_wp2
      refine bodyPost_ret (v := .tuple #[.agg #[.int .i64 0, .int .i64 i, .slice ao nn cap, .int .i64 0, .int .i64 0], .int .i64 ((x : Int) + 1), .nilIface]) (by simp [results, Tryz.results49, go_sem, r0, r1, r2, r3, r4]) rfl ?_
      refine .good HTG.out (((((HBL.out.setCell (by simp) _).setCell (by simp) _).setCell (by simp) _).setCell (by simp) _).setCell (by simp) _) ⟨ao, nn, cap, rfl, fun _ => ?_, fun h => absurd rfl h⟩ (by have := HX.out; omega)
      refine ownsRow_keep HR.out fun b hb => ?_
      have := HRB.out b hb
      have hne : b ≠ w.heap.size := by omega
      repeat rw [Below.heap_setCell _ _ _ _ hne]
    | false =>
      have hno : ¬(BB = 93 ∧ fs = false) := fun h => by
        have hq := Hbq.out
        rw [decide_eq_true h.1, h.2] at hq
        cases hq
      obtain ⟨R2, hR2⟩ : ∃ R2, R2 = t.extract x t.size := ⟨_, rfl⟩
      have hR2l : R2.data.toList = t.data.toList.drop x := by
        rw [hR2, ext_list]
        exact List.take_of_length_le (by rw [List.length_drop, Array.length_toList]; exact Nat.le_refl _)
      have h9 : R2.data.toList.length = R2.size := Array.length_toList
      have hR2s : R2.size ≤ 2000 ∧ 0 < R2.size := by
        have := Hlen.out
        rw [hR2l, List.length_drop] at h9
        omega
      have hC := readItem_ok hcm R2 m wr hR2s.1 hR2s.2 (hml wr HB.out.bel) (Nat.lt_of_lt_of_le hm1 HB.out.bel.size)
      rw [hR2l] at hC
      have hdl : 0 < (t.data.toList.drop x).length := by rw [← hR2l, h9]; exact hR2s.2
      have hdn : t.data.toList.drop x ≠ [] := List.length_pos_iff.1 hdl
      have hxb : (x : Int) ≤ (t.size : Int) := by omega
      have HE := hid HB.out.e
      rw [← HX.out] at HE
      cases hitm : itemF (t.data.toList.drop x) with
      | none =>
        have hrn : res = none := by
          rw [← HE.out]
          exact itemsF_bad (by rw [had]; exact hno) hitm
        have HTM := HTN hrn
        rw [hitm] at hC
        have hC2 : Calls Tryz.prog 73 #[.string R2] wr fun e w' => e = .returned (.tuple #[.agg (marksArr noB), .int .i64 0]) ∧ Below wr.heap.size wr w' := hC
        generalize noB = NB at hC2
        clear hC hno hR2l h9 hR2s hdl hdn hitm hrn HTN hml had ab Hbq
        go_wp2_with fail
        try rw [← hR2]
        clear hR2
        refine hC2.mono ?_
        rintro e w3 ⟨rfl, hb3⟩
        have HB3 := HB.out.keep hb3
        clear hC2
        go_upto_region 12 with (refine wpList_store_row rfl 141 (.tmp 10) _ rfl w3.heap.size _ rfl rfl 141 _ (heap_alloc_new _ _) (by rw [marksArr_size]; exact hzi.out) (by rw [marksArr_size, marksArr_size]) (marksArr_one _) ?_)
        have HB4 := HB3.keep (below_st w3 (fun _ => false) NB)
        generalize (w3.alloc (.cells (marksArr fun _ => false) 141)).setRow w3.heap.size (marksArr NB) = W4 at *
        have HBL := hid HB4.bel
        have hrr := HB4.rr
        clear HB3 HB4
        obtain ⟨r0, r1, r2, r3, r4⟩ := row_five hrr
        have fz : ∀ o, W4.frozen? ⟨w.heap.size, o, none⟩ = false := fun o => frozen_of_row _ _ _ _ _ hrr
        have g0 := fz 0
        have g1 := fz 1
        have g2 := fz 2
        have g3 := fz 3
        have g4 := fz 4
        clear fz
        go_wp2
        refine bodyPost_ret (v := .tuple #[.agg #[.int .i64 0, .int .i64 0, .slice none 0 0, .int .i64 0, .int .i64 0], .int .i64 0, .iface 51 (.agg #[.int .i64 3, .int .i64 (i : Int)])]) (by simp [results, Tryz.results49, go_sem, r0, r1, r2, r3, r4]) rfl ?_
        exact .bad HTM.out (((((HBL.out.setCell (by simp) _).setCell (by simp) _).setCell (by simp) _).setCell (by simp) _).setCell (by simp) _)
      | some gk =>
        obtain ⟨g, k⟩ := gk
        have hk0 := itemF_pos hitm
        have hkl := itemF_len hdl hitm
        obtain ⟨cc, hcc, hgc⟩ := item_some hdl hitm
        have HE2 : Hid (itemsF (t.data.toList.drop (i + 1 + (n + k))) (orB f g) (n + k) false = res) := by
          have h8 := HE.out
          rw [itemsF_one hdn (by rw [had]; exact hno) hitm, List.drop_drop, HX.out] at h8
          show _ = _
          rw [show i + 1 + (n + k) = i + 1 + n + k by omega]
          exact h8
        have HQ := hid (eqM_or (f := f) hcc hgc)
        have hkl2 : x + k ≤ t.size := by have := Hlen.out; rw [List.length_drop] at hkl; omega
        rw [hitm] at hC
        have hC2 : Calls Tryz.prog 73 #[.string R2] wr fun e w' => e = .returned (.tuple #[.agg (marksArr g), .int .i64 (k : Int)]) ∧ Below wr.heap.size wr w' := hC
        have hkb : ((k : Int) == 0) = false := by simp; omega
        clear hC hno hR2l h9 hR2s hdl hdn hitm HTN hml had ab Hbq hkl hcc hgc HE
        go_wp2_with fail
        try rw [← hR2]
        clear hR2
        refine hC2.mono ?_
        rintro e w3 ⟨rfl, hb3⟩
        have HB3 := HB.out.keep hb3
        clear hC2
        go_upto_region 12 with (refine wpList_store_row rfl 141 (.tmp 10) _ rfl w3.heap.size _ rfl rfl 141 _ (heap_alloc_new _ _) (by rw [marksArr_size]; exact hzi.out) (by rw [marksArr_size, marksArr_size]) (marksArr_one _) ?_)
        have HB4 := HB3.keep (below_st w3 (fun _ => false) g)
        have hq4 := row_st w3 (fun _ => false) g
        generalize (w3.alloc (.cells (marksArr fun _ => false) 141)).setRow w3.heap.size (marksArr g) = W4 at *
        have hit4 := HB4.it
        have HBX := hid HB4
        clear HB3 HB4 hit
        generalize w3.heap.size = J at *
        go_wp2_with (first | (refine wpList_load_rowW rfl 141 (.tmp 9) rfl I rfl 141 _ (0, 0) _ hit4 Tryz.underlying141 rfl (by rw [marksArr_size]; exact hzi.out) ?_) | (refine wpList_load_rowW rfl 141 (.tmp 10) rfl J rfl 141 _ (0, 0) _ hq4 Tryz.underlying141 rfl (by rw [marksArr_size]; exact hzi.out) ?_) | fail)
        refine (joined_ok f g W4).mono ?_
        rintro e w5 ⟨rfl, hb5⟩
        have HB5 := HBX.out.keep hb5
        have hit5 := HB5.it
        have hI1 : w.heap.size < I := by have := HI0.out; omega
        have HB6 : ∀ W6, W6 = w5.setRow I (marksArr (orB f g)) → Hid (BkI w t.data.toList i res w.heap.size I W6 (n + k) (orB f g) false) := by
          intro W6 hW6
          have hb6 : Below I w5 W6 := by rw [hW6]; exact Below.setRow (Below.refl _ _) (Nat.le_refl _) _
          refine ⟨by rw [hW6]; exact Below.setRow HB5.bel (by omega) _, by rw [hW6]; exact setRow_heap _ _ _ _ _ _ hit5, by rw [hb6.block _ hI1]; exact HB5.rr, HQ.out, HE2.out, by have := Hlen.out; have := HX.out; omega⟩
        have HXK := hid (show x + k = i + 1 + (n + k) by have := HX.out; omega)
        clear HB5 hb5 hit4 hq4
        go_wp2_with (first | (refine wpList_store_row rfl 141 (.tmp 9) _ rfl I _ rfl rfl 141 _ hit5 (by rw [marksArr_size]; exact hzi.out) (by rw [marksArr_size, marksArr_size]) (marksArr_one _) ?_) | fail)
        go_roundw
        case rel => exact ⟨x + k, n + k, orB f g, false, by omega, by go_num, HXK, HB6 _ rfl⟩
        case measure => simp [intOf]; omega

theorem readBracket_ok (hcm : CmC) (t : ByteArray) (i : Nat) (m : Int) (w : World) (hi : i < t.size) (hs : t.size ≤ 2000) (h91 : atL t.data.toList i = 91) (hm : w.cell? ⟨1, 0, none⟩ = some (.int .i64 m)) (hm1 : 1 < w.heap.size) :
    Calls Tryz.prog 49 #[.string t, .int .i64 (i : Int)] w (RdA w i (tokF t.data.toList i)) := by
  by_cases h : atL t.data.toList (i + 1) = 94
  · exact readBracket_true hcm t i m w hi hs h91 h hm hm1
  · exact readBracket_false hcm t i m w hi hs h91 h hm hm1
end Go.Proofs.YtgbdlgogccgciaaGreatDoor
