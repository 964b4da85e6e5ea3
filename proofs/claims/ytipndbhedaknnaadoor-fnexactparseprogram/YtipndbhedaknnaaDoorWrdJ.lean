import Derived.Test.YtipndbhedaknnaaDoorWrdI
namespace Go.Proofs.YtipndbhedaknnaaDoor
open Go.RowKit
attribute [local go_sem ↓] Go.wp_at_zero Go.wp_at_succ

theorem suf_size (t : ByteArray) (k : Nat) : (t.extract k t.size).size = t.size - k := by rw [ByteArray.size_extract]; omega
theorem suf_at (t : ByteArray) (k j : Nat) : atF (t.extract k t.size) j = atF t (k + j) := by
  unfold atF
  by_cases h : k + j < t.size
  · rw [dif_pos h, dif_pos (show j < (t.extract k t.size).size by rw [suf_size]; omega)]
    have := @ByteArray.getElem_extract j t k t.size (by rw [suf_size]; omega)
    rw [this]
  · rw [dif_neg h, dif_neg (show ¬j < (t.extract k t.size).size by rw [suf_size]; omega)]
theorem suf_suf (t : ByteArray) (k j : Nat) : (t.extract k t.size).extract j (t.size - k) = t.extract (k + j) t.size := by
  apply ByteArray.ext
  apply Array.toList_inj.1
  rw [ext_list, ext_list, ext_list]
  rw [List.take_of_length_le (by simp), List.take_of_length_le (by simp), List.take_of_length_le (by simp), List.drop_drop]
theorem atF_val {t : ByteArray} {k : Nat} (h : k < t.size) : atF t k = (t[k].toNat : Int) := by unfold atF; rw [dif_pos h]
theorem empty_of (r : ByteArray) : r.toList.isEmpty = decide (r.size = 0) := by
  rw [Lib.toList_data]
  cases h : r.data.toList with
  | nil =>
    have : r.data.toList.length = r.size := by simp
    rw [h] at this
    simp at this
    simp [← this]
  | cons a l =>
    have : r.data.toList.length = r.size := by simp
    rw [h] at this
    simp at this
    simp [← this]
set_option maxRecDepth 100000 in
set_option maxHeartbeats 2000000 in
theorem readWord_ok (t : ByteArray) (w : World) (hsz : t.size ≤ 1048576) :
    Calls Tryd.prog 50 #[.string t] w fun e w' => e = .returned (.tuple #[strV (optL (wordF t.data.toList)), .bool (wordF t.data.toList).isSome]) ∧ Below w.heap.size w w' := by
  obtain ⟨i0, hi, hz0, hz1, hz2⟩ := info_parts Tryd.infoByte
  have hcp := cutPrefix_ok t 61
  by_cases h61 : atF t 0 = 61
  case neg =>
    have HN : Hid (wordF t.data.toList = none) := WordSt.none t h61
    have e : cpF 61 t = (t, false) := by exact if_neg h61
    rw [e] at hcp
    go_enter Tryd.func50, Tryd.ntmps50
    go_wp2_with (go_at_call 51; refine (hcp _).mono ?_; rintro e w' ⟨rfl, hw'⟩; subst w')
    go_ret2
    exact ⟨ret_str2 (by rw [HN.out]; rfl) (by rw [HN.out]; rfl), Below.refl _ _⟩
  have HS0 : Hid (WordSt t 1 []) := WordSt.start t h61
  have e : cpF 61 t = (t.extract 1 t.size, true) := by exact if_pos h61
  rw [e] at hcp
  have ht0 : 0 < t.size := by
    apply Classical.byContradiction
    intro hn
    have e0 : atF t 0 = -1 := by unfold atF; rw [dif_neg (by omega)]
    omega
  clear h61 e
  go_enter Tryd.func50, Tryd.ntmps50
  go_wp2_with (go_at_call 51; refine (hcp _).mono ?_; rintro e w' ⟨rfl, hw'⟩; subst w')
  go_loopw [4, 6] (fun sv ov wr => ∃ (k g cap : Nat) (out : List UInt8), 1 ≤ k ∧ k ≤ t.size ∧ sv = .string (t.extract k t.size) ∧ ov = .slice (some ⟨g, 0, none⟩) out.length cap ∧ Hid (WordSt t k out) ∧ Bytes w.heap.size wr g cap out ∧ Below w.heap.size w wr)
    (fun s _ _ => match s with | .string r => r.size | _ => 0)
  case atStart => exact ⟨1, w.heap.size, 0, [], Nat.le_refl _, by omega, rfl, rfl, HS0, ownsRow_new w _, (Below.refl _ _).alloc (Nat.le_refl _) _⟩
  case round =>
    obtain ⟨k, g, cap, out, hk0, hk, rfl, rfl, HS, hown, hb⟩ := hrel
    have hbs := hb.size
    have hol := HS.out.le
    have hgB := (own_form hown).1
    obtain ⟨r, hr⟩ : ∃ r, t.extract k t.size = r := ⟨_, rfl⟩
    have hrz : r.size = t.size - k := by rw [← hr, suf_size]
    have hre := empty_of r
    by_cases hlt : k < t.size
    case neg =>
      have HF : Hid (wordF t.data.toList = some out) := HS.out.full hlt
      have hcv := run_convert_bytes_back (P := Tryd.prog) wr 88 9 5 ⟨g, 0, none⟩ cap out Tryd.underlying88 Tryd.underlying5 Tryd.underlying9 hown.cellsAdd
      rw [decide_eq_true (by omega)] at hre
      rw [hr]
      go_wp2
      go_ret2
      exact ⟨ret_str2 (by rw [HF.out]; rfl) (by rw [HF.out]; rfl), hb⟩
    rw [decide_eq_false (by omega)] at hre
    have hcb : t[k].toNat < 256 := t[k].toNat_lt
    have hr0 : (0 : Nat) < r.size := by omega
    have hr0' : (0 : Int) < (r.size : Int) := by omega
    have e0 : r[0].toNat = t[k].toNat := by
      have := suf_at t k 0
      rw [hr, atF_val hr0, Nat.add_zero, atF_val hlt] at this
      omega
    have hrb : r[0].toNat < 256 := r[0].toNat_lt
    obtain ⟨x, hx⟩ : ∃ x, t[k]'hlt = x := ⟨_, rfl⟩
    rw [hx] at e0 hcb
    have HE0 : Hid (byteV x = .int .u8 r[0].toNat) := by show _ = _; unfold byteV; rw [e0]
    have hol' : out.length ≤ 1048576 := by omega
    have HRZ : Hid (r.size = t.size - k) := hrz
    have hst : ∀ j, k + j ≤ t.size → r.extract j r.size = t.extract (k + j) t.size := fun j hj => by rw [← suf_suf t k j, hr, hrz]
    clear hol
    by_cases hc : (x.toNat : Int) = 37
    · have hpl : plainB 37 = false := by decide
      have hc' : (r[0].toNat : Int) = 37 := by omega
      by_cases h3 : (r.size : Int) < 3
      · have HN : Hid (wordF t.data.toList = none) := HS.out.nohex hlt (by rw [hx]; exact hc) (by
          by_cases hk1 : k + 1 < t.size
          · right
            have : atF t (k + 2) = -1 := by unfold atF; rw [dif_neg (by omega)]
            rw [this, hexF_neg]; omega
          · left
            have : atF t (k + 1) = -1 := by unfold atF; rw [dif_neg (by omega)]
            rw [this, hexF_neg]; omega)
        rw [hr]
        clear hst
        clear e0 hrz hc hcb hr hx hlt hk hk0
        go_wp2_with (go_at_call 56; refine (isPlain_ok _ _ (by omega) (by omega) _ hpl).mono ?_; rintro e w' ⟨rfl, hw'⟩; subst w')
        go_ret2
        exact ⟨ret_str2 (by rw [HN.out]; rfl) (by rw [HN.out]; rfl), hb⟩
      have hr1 : (1 : Nat) < r.size := by omega
      have hr2 : (2 : Nat) < r.size := by omega
      have hr1' : (1 : Int) < (r.size : Int) := by omega
      have hr2' : (2 : Int) < (r.size : Int) := by omega
      have e1 : atF t (k + 1) = (r[1].toNat : Int) := by rw [← suf_at t k 1, hr, atF_val hr1]
      have e2 : atF t (k + 2) = (r[2].toNat : Int) := by rw [← suf_at t k 2, hr, atF_val hr2]
      obtain ⟨p1, p2⟩ := hexF_bd r[1].toNat
      obtain ⟨q1, q2⟩ := hexF_bd r[2].toNat
      have hx1 := hexIdx_ok r[1]
      have hx2 := hexIdx_ok r[2]
      by_cases h1 : hexF r[1].toNat < 0
      · have HN : Hid (wordF t.data.toList = none) := HS.out.nohex hlt (by rw [hx]; exact hc) (.inl (by rw [e1]; exact h1))
        rw [hr]
        clear e1 e2 hst
        clear e0 hrz hc hcb hr hx hlt hk hk0
        go_wp2_with (go_at_call 56; refine (isPlain_ok _ _ (by omega) (by omega) _ hpl).mono ?_; rintro e w' ⟨rfl, hw'⟩; subst w')
        go_region_with (go_at_call 57; refine (hexIdx_ok _ _).mono ?_; rintro e w' ⟨rfl, hw'⟩; subst w')
        all_goals go_wp2
        all_goals go_ret2
        all_goals exact ⟨ret_str2 (by rw [HN.out]; rfl) (by rw [HN.out]; rfl), hb.os, hb.tape, hb.output, hb.size, hb.block⟩
      by_cases h2 : hexF r[2].toNat < 0
      · have HN : Hid (wordF t.data.toList = none) := HS.out.nohex hlt (by rw [hx]; exact hc) (.inr (by rw [e2]; exact h2))
        rw [hr]
        clear e1 e2 hst
        clear e0 hrz hc hcb hr hx hlt hk hk0
        go_wp2_with (go_at_call 56; refine (isPlain_ok _ _ (by omega) (by omega) _ hpl).mono ?_; rintro e w' ⟨rfl, hw'⟩; subst w')
        go_region_with (go_at_call 57; refine (hexIdx_ok _ _).mono ?_; rintro e w' ⟨rfl, hw'⟩; subst w')
        all_goals go_wp2
        all_goals go_ret2
        all_goals exact ⟨ret_str2 (by rw [HN.out]; rfl) (by rw [HN.out]; rfl), hb.os, hb.tape, hb.output, hb.size, hb.block⟩
      obtain ⟨k3, HN0⟩ := HS.out.hex hlt (by rw [hx]; exact hc) (by rw [e1]; omega) (by rw [e2]; omega)
      rw [e1, e2] at HN0
      have HN : Hid (WordSt t (k + 3) (out ++ [UInt8.ofNat (hexF r[1].toNat * 16 + hexF r[2].toNat).toNat])) := HN0
      have HV : Hid (byteV (UInt8.ofNat (hexF r[1].toNat * 16 + hexF r[2].toNat).toNat) = .int .u8 (hexF r[1].toNat * 16 + hexF r[2].toNat)) := byteV_of (by omega) (by omega)
      have hs3 := hst 3 (by omega)
      have Hk : Hid (k + 3 ≤ t.size) := by show _ ≤ _; omega
      rw [hr]
      clear e1 e2 hst HN0
      clear e0 hrz hc hcb hr hx hlt hk hk0
      go_wp2_with (go_at_call 56; refine (isPlain_ok _ _ (by omega) (by omega) _ hpl).mono ?_; rintro e w' ⟨rfl, hw'⟩; subst w')
      go_region_with (go_at_call 57; refine (hexIdx_ok _ _).mono ?_; rintro e w' ⟨rfl, hw'⟩; subst w')
      all_goals go_wp2_with (refine wpList_append_one wr.drew rfl (.tmp 49) (.tmp 55) 88 rfl w.heap.size 5 i0 _ 1 Tryd.underlying88 hi hz0 hz1 hz2 rfl g cap out.length (out.map byteV) _ rfl hown rfl rfl (by omega) (by omega) hbs ?_; intro g' cap' w2 own2 grow2 at2)
      all_goals
        refine ⟨⟨k + 3, g', cap', _, by omega, Hk.out, rfl, by simp, HN.out, bytes_one own2 (by rw [HV.out]; congr 1; omega), (⟨hb.os, hb.tape, hb.output, hb.size, hb.block⟩ : Below w.heap.size w wr.drew).grown grow2 hbs (by intro q hq; cases hq; exact hgB)⟩, ?_⟩
        have h1 := Hk.out
        have h2 := HRZ.out
        show (t.extract (k + 3) t.size).size < r.size
        rw [suf_size]
        omega
    · by_cases hbt : btw x.toNat 33 126 = true
      · have hpl : plainB r[0].toNat = true := by rw [e0]; unfold plainB; unfold btw at hbt; simp only [decide_eq_true_eq] at hbt ⊢; omega
        have HN1 := HS.out.one hlt (by rw [hx]; exact hc) (by rw [hx]; exact hbt)
        rw [hx] at HN1
        have HN : Hid (WordSt t (k + 1) (out ++ [x])) := HN1
        clear HN1
        have hs1 := hst 1 (by omega)
        rw [hr]
        have Hk : Hid (k < t.size) := hlt
        clear hst hbt
        clear e0 hrz hc hcb hr hx hlt hk hk0
        go_wp2_with (first | (go_at_call 56; refine (isPlain_ok _ _ (by omega) (by omega) _ hpl).mono ?_; rintro e w' ⟨rfl, hw'⟩; subst w') | (refine wpList_append_one _ rfl (.tmp 22) (.tmp 25) 88 rfl w.heap.size 5 i0 _ 1 Tryd.underlying88 hi hz0 hz1 hz2 rfl g cap out.length (out.map byteV) _ rfl hown rfl rfl (by omega) (by omega) hbs ?_; intro g' cap' w2 own2 grow2 at2))
        go_roundw
        case rel => exact ⟨k + 1, g', cap', out ++ [x], by omega, by have := Hk.out; omega, rfl, by simp, HN.out, bytes_one own2 HE0.out, hb.grown grow2 hbs (by intro q hq; cases hq; exact hgB)⟩
        case measure =>
          have h1 := Hk.out
          have h2 := HRZ.out
          show (t.extract (k + 1) t.size).size < r.size
          rw [suf_size]
          omega
      · have hpl : plainB r[0].toNat = false := by rw [e0]; unfold plainB; unfold btw at hbt; simp only [decide_eq_true_eq] at hbt; simp only [decide_eq_false_iff_not]; omega
        have HN : Hid (wordF t.data.toList = none) := HS.out.bad hlt (by rw [hx]; exact hc) (by rw [hx]; simpa using hbt)
        have hc' : ((r[0].toNat : Int) != 37) = true := by rw [e0]; simpa using hc
        rw [hr]
        clear hst hbt
        clear e0 hrz hc hcb hr hx hlt hk hk0
        go_wp2_with (go_at_call 56; refine (isPlain_ok _ _ (by omega) (by omega) _ hpl).mono ?_; rintro e w' ⟨rfl, hw'⟩; subst w')
        go_ret2
        exact ⟨ret_str2 (by rw [HN.out]; rfl) (by rw [HN.out]; rfl), hb⟩
end Go.Proofs.YtipndbhedaknnaaDoor
