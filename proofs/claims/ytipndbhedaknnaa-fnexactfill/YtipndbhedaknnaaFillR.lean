import Derived.Test.YtipndbhedaknnaaFillS
namespace Go.Proofs.Ytipndbhedaknnaa
open Go.RowKit
attribute [local go_sem ↓] Go.wp_at_zero Go.wp_at_succ

/-- Where the filling stands: o is what has been written of the template's first k bytes. -/
structure FillSt (tm tx : ByteArray) (sp : List (Int × Int)) (k : Nat) (o : ByteArray) : Prop where
  so : o.data.toList ++ fillL tx.data.toList sp (tm.data.toList.drop k) = fillL tx.data.toList sp tm.data.toList
  sz : o.size ≤ 4096 * k
theorem bytes_of {a : ByteArray} {l : List UInt8} (h : a.data.toList = l) : a = ⟨l.toArray⟩ := by subst h; cases a; simp
theorem FillSt.start (tm tx : ByteArray) (sp : List (Int × Int)) : FillSt tm tx sp 0 ⟨#[]⟩ := ⟨by simp, by show (#[] : Array UInt8).size ≤ _; simp⟩
theorem FillSt.one {tm tx : ByteArray} {sp : List (Int × Int)} {k : Nat} {o : ByteArray} (h : FillSt tm tx sp k o) (hk : k < tm.size) (hn : fillL tx.data.toList sp (tm.data.toList.drop k) = tm[k] :: fillL tx.data.toList sp (tm.data.toList.drop (k + 1))) : FillSt tm tx sp (k + 1) (o ++ tm.extract k (k + 1)) := by
  refine ⟨?_, ?_⟩
  · rw [← h.so, hn, app_list, ext_list, drop_at tm k hk]
    simp [show k + 1 - k = 1 by omega]
  · have := h.sz
    rw [ByteArray.size_append, ByteArray.size_extract]
    omega
theorem FillSt.bs {tm tx : ByteArray} {sp : List (Int × Int)} {k : Nat} {o : ByteArray} (h : FillSt tm tx sp k o) (hk : k + 1 < tm.size) (hc : tm[k].toNat = 92) (hd : tm[k + 1].toNat = 92) : FillSt tm tx sp (k + 2) (o ++ ⟨#[92]⟩) := by
  have e : tm[k] = 92 := by apply UInt8.toNat_inj.1; rw [hc]; rfl
  refine ⟨?_, ?_⟩
  · rw [← h.so, fill_bs tm _ sp k hk hc hd, app_list, e]
    simp
  · have := h.sz
    rw [ByteArray.size_append]
    have : (⟨#[92]⟩ : ByteArray).size = 1 := rfl
    omega
theorem FillSt.dg {tm tx : ByteArray} {sp : List (Int × Int)} {k : Nat} {o : ByteArray} (h : FillSt tm tx sp k o) (hk : k + 1 < tm.size) (hc : tm[k].toNat = 92) (h1 : 48 ≤ tm[k + 1].toNat) (h2 : tm[k + 1].toNat ≤ 57) (lo hi : Int) (hp : sp.getD (tm[k + 1].toNat - 48) (0, 0) = (lo, hi)) (hg : tm[k + 1].toNat - 48 < sp.length) (a1 : 0 ≤ lo) (a2 : lo ≤ hi) (a3 : hi ≤ tx.size) (htx : tx.size ≤ 4096) :
    FillSt tm tx sp (k + 2) (o ++ tx.extract lo.toNat hi.toNat) := by
  refine ⟨?_, ?_⟩
  · rw [← h.so, fill_dg tm _ sp k hk hc h1 h2, app_list, ext_list]
    have : spanOKB tx.data.toList.length sp (tm[k + 1].toNat - 48) = true := by
      unfold spanOKB
      rw [hp]
      simp only [decide_eq_true_eq]
      exact ⟨hg, a1, a2, by simpa using a3⟩
    unfold spanL
    rw [this, hp]
    simp
  · have := h.sz
    rw [ByteArray.size_append, ByteArray.size_extract]
    omega
theorem FillSt.dg0 {tm tx : ByteArray} {sp : List (Int × Int)} {k : Nat} {o : ByteArray} (h : FillSt tm tx sp k o) (hk : k + 1 < tm.size) (hc : tm[k].toNat = 92) (h1 : 48 ≤ tm[k + 1].toNat) (h2 : tm[k + 1].toNat ≤ 57) (hno : spanOKB tx.size sp (tm[k + 1].toNat - 48) = false) : FillSt tm tx sp (k + 2) o := by
  refine ⟨?_, ?_⟩
  · rw [← h.so, fill_dg tm _ sp k hk hc h1 h2]
    unfold spanL
    rw [show tx.data.toList.length = tx.size by simp, hno]
    simp
  · have := h.sz
    omega
theorem FillSt.full {tm tx : ByteArray} {sp : List (Int × Int)} {k : Nat} {o : ByteArray} (h : FillSt tm tx sp k o) (hk : ¬k < tm.size) : o.data.toList = fillL tx.data.toList sp tm.data.toList := by
  rw [← h.so, List.drop_eq_nil_of_le (by simp; omega)]
  simp [fillL]

set_option maxRecDepth 100000 in
set_option maxHeartbeats 4000000 in
theorem specFill_ok {lo : Nat} (tm tx : ByteArray) (v : Value) (sp : List (Int × Int)) (w : World) (hs : RangesAt lo w v sp) (hm1 : tm.size ≤ 1048576) (hm2 : tx.size ≤ 1048576) :
    Calls Try.prog 5 #[.string tm, .string tx, v] w fun e w' => e = .returned (.string (fillF tm tx sp)) ∧ Below w.heap.size w w' := by
  obtain ⟨ao, cap, rfl, hm, hc⟩ := hs
  by_cases g1 : 1000 < (tm.size : Int)
  · have H : Hid (fillF tm tx sp = ⟨#[]⟩) := by show _ = _; unfold fillF; rw [if_pos (.inl (by omega))]
    go_enter Try.func5, Try.ntmps5
    go_wp2
    go_ret
    exact ⟨ret_str H.out.symm, Below.refl _ _⟩
  by_cases g2 : 4096 < (tx.size : Int)
  · have H : Hid (fillF tm tx sp = ⟨#[]⟩) := by show _ = _; unfold fillF; rw [if_pos (.inr (by omega))]
    go_enter Try.func5, Try.ntmps5
    go_wp2
    go_ret
    exact ⟨ret_str H.out.symm, Below.refl _ _⟩
  have H : Hid (fillF tm tx sp = ⟨((fillL tx.data.toList sp tm.data.toList).take 1000).toArray⟩) := by show _ = _; unfold fillF; rw [if_neg (by omega)]
  go_enter Try.func5, Try.ntmps5
  go_wp2
  go_loopw [7, 8] (fun ov iv wr => ∃ (k : Nat) (o : ByteArray), k ≤ tm.size ∧ iv = .int .i64 k ∧ ov = .string o ∧ Hid (FillSt tm tx sp k o) ∧ Below w.heap.size w wr)
    (fun _ i _ => tm.size - (intOf i).toNat)
  case atStart => exact ⟨0, ⟨#[]⟩, Nat.zero_le _, rfl, rfl, FillSt.start tm tx sp, Below.refl _ _⟩
  case round =>
    obtain ⟨k, o, hk, rfl, rfl, HF, hb⟩ := hrel
    have hosz := HF.out.sz
    by_cases hlt : k < tm.size
    · have hi0 : (0 : Int) ≤ (k : Int) := by omega
      have hi1 : (k : Int) < (tm.size : Int) := by omega
      by_cases c92 : (tm[k].toNat : Int) = 92
      case neg =>
        have HN : Hid (FillSt tm tx sp (k + 1) (o ++ tm.extract k (k + 1))) := HF.out.one hlt (fill_one tm tx.data.toList sp k hlt (.inl (by omega)))
        by_cases h1 : k + 1 < tm.size
        all_goals
          go_wp2_with (first | (go_at_call 9; first | (refine (l1At_in tm (k + 1) _ _ (by omega) h1).mono ?_; rintro e w' ⟨rfl, rfl⟩) | (refine (l1At_out tm (k + 1) _ _ (by omega) h1).mono ?_; rintro e w' ⟨rfl, rfl⟩)))
          go_roundw
          case rel => exact ⟨k + 1, _, by omega, by go_num, rfl, HN.out, hb⟩
          case measure => simp [intOf]; omega
      by_cases h1 : k + 1 < tm.size
      case neg =>
        have HN : Hid (FillSt tm tx sp (k + 1) (o ++ tm.extract k (k + 1))) := HF.out.one hlt (fill_one tm tx.data.toList sp k hlt (.inr (.inl h1)))
        have hbt : btw (-1) 48 57 = false := by decide
        go_wp2_with (first | (go_at_call 9; first | (refine (l1At_in tm (k + 1) _ _ (by omega) h1).mono ?_; rintro e w' ⟨rfl, rfl⟩) | (refine (l1At_out tm (k + 1) _ _ (by omega) h1).mono ?_; rintro e w' ⟨rfl, rfl⟩)) | (go_at_call 10; refine (between_ok _ _ _ _).mono ?_; rintro e w' ⟨rfl, rfl⟩))
        go_roundw
        case rel => exact ⟨k + 1, _, by omega, by go_num, rfl, HN.out, hb⟩
        case measure => simp [intOf]; omega
      have c92' : tm[k].toNat = 92 := by omega
      have hq := tm[k + 1].toNat_lt
      by_cases d92 : (tm[k + 1].toNat : Int) = 92
      · have HN : Hid (FillSt tm tx sp (k + 2) (o ++ ⟨#[92]⟩)) := HF.out.bs h1 c92' (by omega)
        clear c92'
        go_wp2_with (first | (go_at_call 9; first | (refine (l1At_in tm (k + 1) _ _ (by omega) h1).mono ?_; rintro e w' ⟨rfl, rfl⟩) | (refine (l1At_out tm (k + 1) _ _ (by omega) h1).mono ?_; rintro e w' ⟨rfl, rfl⟩)) | (go_at_call 10; refine (between_ok _ _ _ _).mono ?_; rintro e w' ⟨rfl, rfl⟩))
        go_roundw
        case rel => exact ⟨k + 2, _, by omega, by go_num, rfl, HN.out, hb⟩
        case measure => simp [intOf]; omega
      cases hbt : btw tm[k + 1].toNat 48 57
      case false =>
        have HN : Hid (FillSt tm tx sp (k + 1) (o ++ tm.extract k (k + 1))) := HF.out.one hlt (fill_one tm tx.data.toList sp k hlt (.inr (.inr ⟨h1, by omega, fun x => by simp [btw] at hbt; omega⟩)))
        clear c92'
        go_wp2_with (first | (go_at_call 9; first | (refine (l1At_in tm (k + 1) _ _ (by omega) h1).mono ?_; rintro e w' ⟨rfl, rfl⟩) | (refine (l1At_out tm (k + 1) _ _ (by omega) h1).mono ?_; rintro e w' ⟨rfl, rfl⟩)) | (go_at_call 10; refine (between_ok _ _ _ _).mono ?_; rintro e w' ⟨rfl, rfl⟩))
        go_roundw
        case rel => exact ⟨k + 1, _, by omega, by go_num, rfl, HN.out, hb⟩
        case measure => simp [intOf]; omega
      have hdg : 48 ≤ tm[k + 1].toNat ∧ tm[k + 1].toNat ≤ 57 := by simp [btw] at hbt; omega
      by_cases hg : (tm[k + 1].toNat : Int) - 48 < (sp.length : Int)
      case neg =>
        have HN : Hid (FillSt tm tx sp (k + 2) o) := HF.out.dg0 h1 c92' hdg.1 hdg.2 (by unfold spanOKB; simp only [decide_eq_false_iff_not]; intro x; omega)
        clear c92'
        have hd : decide ((tm[k + 1].toNat : Int) - 48 < (sp.length : Int)) = false := by simpa using hg
        go_wp2_with (first | (go_at_call 9; first | (refine (l1At_in tm (k + 1) _ _ (by omega) h1).mono ?_; rintro e w' ⟨rfl, rfl⟩) | (refine (l1At_out tm (k + 1) _ _ (by omega) h1).mono ?_; rintro e w' ⟨rfl, rfl⟩)) | (go_at_call 10; refine (between_ok _ _ _ _).mono ?_; rintro e w' ⟨rfl, rfl⟩))
        go_quiet (fail)
        go_wp2
        go_roundw
        case rel => exact ⟨k + 2, _, by omega, by go_num, rfl, HN.out, below_drewN hb _⟩
        case measure => simp [intOf]; omega
      obtain ⟨gN, hgE⟩ : ∃ gN : Nat, tm[k + 1].toNat - 48 = gN := ⟨_, rfl⟩
      obtain ⟨b, so, lo1, hi1, rfl, Hn, hbl, d0, d1⟩ := hc.elem hb (k := gN) (by omega)
      have hbr : b < wr.heap.size := Nat.lt_of_lt_of_le hbl hb.size
      have hgN : (tm[k + 1].toNat : Int) = (gN : Int) + 48 := by omega
      have hg0 : (0 : Int) ≤ (gN : Int) := by omega
      have hg1 : (gN : Int) < (sp.length : Int) := by omega
      have hp : Hid (sp.getD (tm[k + 1].toNat - 48) (0, 0) = (lo1, hi1)) := by show _ = _; rw [hgE]; exact Hn.out
      have hgl : tm[k + 1].toNat - 48 < sp.length := by omega
      rw [hgN] at hbt d92
      clear hg hgE
      by_cases a1 : 0 ≤ lo1
      case neg =>
        have HN : Hid (FillSt tm tx sp (k + 2) o) := HF.out.dg0 h1 c92' hdg.1 hdg.2 (by unfold spanOKB; rw [hp.out]; simp only [decide_eq_false_iff_not]; intro x; omega)
        clear c92' hgl hdg
        have hd : decide (0 ≤ lo1) = false := by simpa using a1
        go_wp2_with (first | (go_at_call 9; first | (refine (l1At_in tm (k + 1) _ _ (by omega) h1).mono ?_; rintro e w' ⟨rfl, rfl⟩) | (refine (l1At_out tm (k + 1) _ _ (by omega) h1).mono ?_; rintro e w' ⟨rfl, rfl⟩)) | (go_at_call 10; refine (between_ok _ _ _ _).mono ?_; rintro e w' ⟨rfl, rfl⟩))
        go_quiet (fail)
        go_wp2
        go_roundw
        case rel => exact ⟨k + 2, _, by omega, by go_num, rfl, HN.out, below_drewN hb _⟩
        case measure => simp [intOf]; omega
      by_cases a2 : lo1 ≤ hi1
      case neg =>
        have HN : Hid (FillSt tm tx sp (k + 2) o) := HF.out.dg0 h1 c92' hdg.1 hdg.2 (by unfold spanOKB; rw [hp.out]; simp only [decide_eq_false_iff_not]; intro x; omega)
        clear c92' hgl hdg
        have hd : decide (lo1 ≤ hi1) = false := by simpa using a2
        go_wp2_with (first | (go_at_call 9; first | (refine (l1At_in tm (k + 1) _ _ (by omega) h1).mono ?_; rintro e w' ⟨rfl, rfl⟩) | (refine (l1At_out tm (k + 1) _ _ (by omega) h1).mono ?_; rintro e w' ⟨rfl, rfl⟩)) | (go_at_call 10; refine (between_ok _ _ _ _).mono ?_; rintro e w' ⟨rfl, rfl⟩))
        go_quiet (fail)
        go_wp2
        go_roundw
        case rel => exact ⟨k + 2, _, by omega, by go_num, rfl, HN.out, below_drewN hb _⟩
        case measure => simp [intOf]; omega
      by_cases a3 : hi1 ≤ (tx.size : Int)
      case neg =>
        have HN : Hid (FillSt tm tx sp (k + 2) o) := HF.out.dg0 h1 c92' hdg.1 hdg.2 (by unfold spanOKB; rw [hp.out]; simp only [decide_eq_false_iff_not]; intro x; omega)
        clear c92' hgl hdg
        have hd : decide (hi1 ≤ (tx.size : Int)) = false := by simpa using a3
        go_wp2_with (first | (go_at_call 9; first | (refine (l1At_in tm (k + 1) _ _ (by omega) h1).mono ?_; rintro e w' ⟨rfl, rfl⟩) | (refine (l1At_out tm (k + 1) _ _ (by omega) h1).mono ?_; rintro e w' ⟨rfl, rfl⟩)) | (go_at_call 10; refine (between_ok _ _ _ _).mono ?_; rintro e w' ⟨rfl, rfl⟩))
        go_quiet (fail)
        go_wp2
        go_roundw
        case rel => exact ⟨k + 2, _, by omega, by go_num, rfl, HN.out, below_drewN hb _⟩
        case measure => simp [intOf]; omega
      have HN : Hid (FillSt tm tx sp (k + 2) (o ++ tx.extract lo1.toNat hi1.toNat)) := HF.out.dg h1 c92' hdg.1 hdg.2 lo1 hi1 hp.out hgl a1 a2 a3 (by omega)
      clear c92' hgl hdg
      go_wp2_with (first | (go_at_call 9; first | (refine (l1At_in tm (k + 1) _ _ (by omega) h1).mono ?_; rintro e w' ⟨rfl, rfl⟩) | (refine (l1At_out tm (k + 1) _ _ (by omega) h1).mono ?_; rintro e w' ⟨rfl, rfl⟩)) | (go_at_call 10; refine (between_ok _ _ _ _).mono ?_; rintro e w' ⟨rfl, rfl⟩))
      go_quiet (fail)
      go_wp2
      go_quiet (fail)
      go_wp2
      go_roundw
      case rel => exact ⟨k + 2, _, by omega, by go_num, rfl, HN.out, below_drewN hb _⟩
      case measure => simp [intOf]; omega
    · have HE := HF.out.full hlt
      by_cases hbig : 1000 < (o.size : Int)
      · go_wp2
        go_ret
        exact ⟨ret_str (by rw [H.out, ← HE]; exact bytes_of (by rw [ext_list]; simp)), hb⟩
      · go_wp2
        go_ret
        exact ⟨ret_str (by rw [H.out, ← HE]; exact bytes_of (by rw [List.take_of_length_le (by simp; omega)])), hb⟩
end Go.Proofs.Ytipndbhedaknnaa
