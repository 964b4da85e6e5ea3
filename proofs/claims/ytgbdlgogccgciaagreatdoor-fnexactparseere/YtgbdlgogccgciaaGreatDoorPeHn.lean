import Derived.Test.YtgbdlgogccgciaaGreatDoorPeEPeFPeIPeJ
import Derived.Deep.Cut
import Derived.Deep.CutRange
namespace Go.Proofs.YtgbdlgogccgciaaGreatDoor
open Go.RowKit
attribute [local go_sem ↓] Go.wp_at_zero Go.wp_at_succ

set_option maxRecDepth 100000 in
set_option maxHeartbeats 8000000 in
theorem l1Bracket_not (t : ByteArray) (a : Nat) (w : World) (ha : a < t.size) (hsz : t.size ≤ 2000) (h94 : atL t.data.toList (a + 1) = 94) :
    Calls Tryz.prog 23 #[.string t, .int .i64 (a : Int)] w (BrkA w a (bracketF (t.data.toList.drop (a + 1)))) := by
  obtain ⟨iB, hjB, hyB0, hyB1, hyB2⟩ := info_parts Tryz.infoBoolP
  go_enter Tryz.func23, Tryz.ntmps23
  go_wp2_with (refine wpList_make_full _ rfl _ _ 34 rfl w.heap.size 4 iB _ 1 Tryz.underlying34 hjB hyB0 hyB1 _ _ _ _ 256 rfl rfl rfl rfl (by rw [hyB2]; omega) (by unfold maxLen; omega) (Nat.le_refl _) ?_; intro w1 hown hgrow)
  have hr1 := own_fullE hown
  rw [made_marks] at hr1
  have hr1 : BRow w1 w.heap.size noB := hr1
  have hb1 : Below w.heap.size w w1 := (Below.refl _ _).grown hgrow (Nat.le_refl _) (by intro k h; cases h)
  clear hown hgrow
  refine (l1AtL_ok t (a + 1) _ _ (by omega)).mono ?_
  rintro e w' ⟨rfl, rfl⟩
  rw [h94]
  have hlA := atL_lt.1 (show 0 ≤ atL t.data.toList (a + 1) by omega)
  have H94 : Hid _ := h94
  go_wp2
  have hS0 : BrkS t a (a + 2) true (a + 2) noB := .start1 h94
  obtain ⟨B, hBB⟩ : ∃ B, B = a + 2 := ⟨_, rfl⟩
  rw [← hBB] at hS0
  have hBi : ((B : Nat) : Int) = (a : Int) + 2 := by omega
  have HB : Hid _ := hBi
  clear hBB hBi
  go_loopw [7] (fun i wr => ∃ (k : Nat) (f : Nat → Bool), i = .int .i64 k ∧ BRow wr w.heap.size f ∧ Below w.heap.size w wr ∧ Hid (BrkS t a B true k f))
    (fun i _ => t.size - (intOf i).toNat)
  case atStart => exact ⟨B, noB, by have := HB.out; congr 1; omega, hr1, hb1, hS0⟩
  case round =>
    obtain ⟨k, f, rfl, hr, hb, HS⟩ := hrel
    have hkB := HS.out.ge
    have hkl := HS.out.le
    have haB := HS.out.b
    by_cases hlt : k < t.size
    case neg =>
      have HN : Hid _ := HS.out.over hlt
      have hlt2 : ¬(k : Int) < (t.size : Int) := by omega
      have hsz2 := row_lt hr
      have Hr : Hid _ := hr
      clear hr
      go_wp2
      refine bodyPost_ret (v := .tuple #[.slice (some ⟨w.heap.size, 0, none⟩) 256 256, .int .i64 (-1)]) (by simp [results, Tryz.results23, go_sem]) rfl ?_
      exact .bad hb hsz2 HN.out
    have h1 : (k : Int) < (t.size : Int) := by omega
    have hc : t[k].toNat < 256 := t[k].toNat_lt
    have hat : atL t.data.toList k = (t[k].toNat : Int) := atL_byte hlt
    have Hat : Hid _ := hat
    clear hat
    by_cases h93 : (t[k].toNat : Int) = 93 ∧ B < k
    case pos =>
      obtain ⟨h93, hBk⟩ := h93
      have HF : Hid _ := HS.out.fin hBk (Hat.out.trans h93)
      have hBk2 : (a : Int) + 1 + 1 < (k : Int) := by have := HB.out; omega
      have h93b : ((t[k].toNat : Int) == 93) = true := by simpa using h93
      have Hr : Hid _ := hr
      clear hr
      go_wp2
      go_loopw [10] (fun c wz => ∃ m : Nat, m ≤ 256 ∧ c = .int .i64 m ∧ Below w.heap.size w wz ∧ BRow wz w.heap.size (fun x => if x < m then !(f x) else f x))
        (fun c _ => 256 - (intOf c).toNat)
      case atStart => exact ⟨0, by omega, rfl, hb, (show BRow wr w.heap.size f from Hr.out).congr (fun c _ => by simp)⟩
      case round =>
        obtain ⟨m, hm, rfl, hbz, hrz⟩ := hrel
        by_cases hlm : m < 256
        · have c0 : wr.cell? ⟨w.heap.size, m, none⟩ = some (.bool (if m < m then !(f m) else f m)) := hrz.get hlm
          have f0 := hrz.thaw m
          rw [if_neg (Nat.lt_irrefl m)] at c0
          have HP : Hid (BRow (wr.setCell ⟨w.heap.size, m, none⟩ (.bool (!(f m)))) w.heap.size (fun x => if x < m + 1 then !(f x) else f x)) := by
            refine (hrz.put m (!(f m))).congr fun c _ => ?_
            by_cases e : c = m
            · subst e; simp
            · by_cases e2 : c < m
              · simp [e, e2, show c < m + 1 by omega]
              · simp [e, e2, show ¬c < m + 1 by omega]
          clear hrz
          generalize f m = fm at c0 HP
          go_wp2
          go_roundw
          case rel => exact ⟨m + 1, by omega, by go_num, hbz.setCell (by simp) _, HP.out⟩
          case measure => simp [intOf]; omega
        · have hm6 : m = 256 := by omega
          subst hm6
          have HRz : Hid (BRow wr w.heap.size (notB f)) := hrz.congr fun c hc => by simp [notB, hc]
          clear hrz
          go_wp2
          refine bodyPost_ret (v := .tuple #[.slice (some ⟨w.heap.size, 0, none⟩) 256 256, .int .i64 ((k : Int) + 1)]) (by simp [results, Tryz.results23, go_sem]) rfl ?_
          exact .good hbz HRz.out HF.out (by omega)
    have Hne : Hid (¬(atL t.data.toList k = 93 ∧ B < k)) := by show ¬_; rw [Hat.out]; exact h93
    have hgt : ((t[k].toNat : Int) = 93) → ¬((a : Int) + 1 + 1 < (k : Int)) := fun h h2 => h93 ⟨h, by have := HB.out; omega⟩
    clear h93
    have Hr : Hid _ := hr
    clear hr
    obtain ⟨T1, hT1⟩ : ∃ T1, T1 = atL t.data.toList (k + 1) := ⟨_, rfl⟩
    have HT1 : Hid _ := hT1
    have hT1b := atL_bd t.data.toList (k + 1)
    rw [← hT1] at hT1b
    have HC1 := l1AtL_ok t (k + 1) ((k : Int) + 1) wr (by omega)
    rw [← hT1] at HC1
    clear hT1
    obtain ⟨T2, hT2⟩ : ∃ T2, T2 = atL t.data.toList (k + 2) := ⟨_, rfl⟩
    have HT2 : Hid _ := hT2
    have hT2b := atL_bd t.data.toList (k + 2)
    rw [← hT2] at hT2b
    have HC2 := l1AtL_ok t (k + 2) ((k : Int) + 2) wr (by omega)
    rw [← hT2] at HC2
    clear hT2
    obtain ⟨T3, hT3⟩ : ∃ T3, T3 = atL t.data.toList (k + 3) := ⟨_, rfl⟩
    have HT3 : Hid _ := hT3
    have hT3b := atL_bd t.data.toList (k + 3)
    rw [← hT3] at hT3b
    have HC3 := l1AtL_ok t (k + 3) ((k : Int) + 3) wr (by omega)
    rw [← hT3] at HC3
    clear hT3
    have HE0 : Hid (atL (t.data.toList.drop k) 0 = (t[k].toNat : Int)) := by show _ = _; rw [atL_drop]; exact Hat.out
    have HE1 : Hid (atL (t.data.toList.drop k) 1 = T1) := by show _ = _; rw [atL_drop]; exact HT1.out.symm
    have HE2 : Hid (atL (t.data.toList.drop k) 2 = T2) := by show _ = _; rw [atL_drop]; exact HT2.out.symm
    have HE3 : Hid (atL (t.data.toList.drop k) 3 = T3) := by show _ = _; rw [atL_drop]; exact HT3.out.symm
    have hT2l : 0 ≤ T2 → k + 2 < t.size := fun h => by have := atL_lt.1 (show 0 ≤ atL t.data.toList (k + 2) by rw [← HT2.out]; exact h); rw [Array.length_toList] at this; exact this
    have HT2l : Hid _ := hT2l
    clear hT2l
    go_upto_region 8 with fail
    go_cut [46] from 38 to 46 (fun v wx => v = .bool false ∧ wx = wr)
    case first =>
      by_cases h : (t[k].toNat : Int) = 93
      · have hnB := hgt h
        have h93b : ((t[k].toNat : Int) == 93) = true := by simpa using h
        clear h
        go_wp2_with fail
        go_meet
        case rel => exact ⟨rfl, rfl⟩
      · have h93b : ((t[k].toNat : Int) == 93) = false := by simpa using h
        go_wp2_with fail
        go_meet
        case rel => exact ⟨rfl, rfl⟩
    obtain ⟨rfl, rfl⟩ := hcut
    have Hgt : Hid _ := hgt
    clear hgt
    · skip
      go_wp2_with fail
      refine HC1.mono ?_
      rintro e w2 ⟨rfl, rfl⟩
      clear HC1
      by_cases hel : (t[k].toNat : Int) = 91 ∧ (T1 = 46 ∨ T1 = 61)
      case pos =>
        have HN : Hid _ := HS.out.badI Hne.out (itemF_elem (by rw [HE0.out]; exact hel.1) (by rw [HE1.out]; exact hel.2))
        have hsz2 := row_lt Hr.out
        obtain ⟨e1, e2⟩ := hel
        have e1b : ((t[k].toNat : Int) == 91) = true := by simpa using e1
        clear e1
        by_cases e3 : T1 = 46
        · have e3b : (T1 == 46) = true := by simpa using e3
          clear e3 e2
          go_wp2
          refine bodyPost_ret (v := .tuple #[.slice (some ⟨w.heap.size, 0, none⟩) 256 256, .int .i64 (-1)]) (by simp [results, Tryz.results23, go_sem]) rfl ?_
          exact .bad hb hsz2 HN.out
        have e3b : (T1 == 46) = false := by simpa using e3
        have e4b : (T1 == 61) = true := by simp; omega
        clear e2 e3
        go_wp2
        refine bodyPost_ret (v := .tuple #[.slice (some ⟨w.heap.size, 0, none⟩) 256 256, .int .i64 (-1)]) (by simp [results, Tryz.results23, go_sem]) rfl ?_
        exact .bad hb hsz2 HN.out
      go_upto_region 16 with fail
      go_cut [78] from 67 to 78 (fun v wx => v = .bool false ∧ wx = w2)
      case first =>
        by_cases e1 : (t[k].toNat : Int) = 91
        · have e1b : ((t[k].toNat : Int) == 91) = true := by simpa using e1
          have e2b : (T1 == 46) = false := by simp; omega
          have e3b : (T1 == 61) = false := by simp; omega
          clear e1
          go_wp2_with fail
          go_meet
          case rel => exact ⟨rfl, rfl⟩
        · have e1b : ((t[k].toNat : Int) == 91) = false := by simpa using e1
          go_wp2_with fail
          go_meet
          case rel => exact ⟨rfl, rfl⟩
      obtain ⟨rfl, rfl⟩ := hcut
      by_cases hcl : (t[k].toNat : Int) = 91 ∧ T1 = 58
      case pos =>
        have hk2 : k + 2 ≤ t.size := by have := atL_lt.1 (show 0 ≤ atL t.data.toList (k + 1) by rw [← HT1.out, hcl.2]; omega); rw [Array.length_toList] at this; exact this
        have HIC : Hid _ := itemF_class (HE0.out.trans hcl.1) (HE1.out.trans hcl.2)
        rw [List.drop_drop] at HIC
        obtain ⟨e1, e2⟩ := hcl
        have e1b : ((t[k].toNat : Int) == 91) = true := by simpa using e1
        have e2b : (T1 == 58) = true := by simpa using e2
        clear e1 e2
        have hsz2 := row_lt Hr.out
        have hget : ∀ x (hx : x < t.size), k + 2 ≤ x → (t.data.toList.drop (k + 2))[x - (k + 2)]? = some t[x] := fun x hx hax => by
          rw [List.getElem?_drop, show k + 2 + (x - (k + 2)) = x by omega, List.getElem?_eq_getElem (by rw [Array.length_toList]; exact hx)]
          rfl
        have Hget : Hid _ := hget
        clear hget
        cases hC2 : cut2 58 93 (t.data.toList.drop (k + 2)) with
        | none =>
          have HN : Hid _ := HS.out.badI Hne.out (by rw [HIC.out, hC2])
          have hno : ∀ x (hx : x + 1 < t.size), k + 2 ≤ x → (t[x].toNat : Int) = 58 → ¬(t[x + 1].toNat : Int) = 93 := by
            intro x hx hkx h58 h93
            have g1 := Hget.out x (by omega) hkx
            have g2 := Hget.out (x + 1) hx (by omega)
            rw [show x + 1 - (k + 2) = x - (k + 2) + 1 by omega] at g2
            refine cut2_none hC2 (x - (k + 2)) ⟨?_, ?_⟩
            · rw [g1]; congr 1; exact UInt8.toNat_inj.1 (by have : (58 : UInt8).toNat = 58 := rfl; omega)
            · rw [g2]; congr 1; exact UInt8.toNat_inj.1 (by have : (93 : UInt8).toNat = 93 := rfl; omega)
          have Hno : Hid _ := hno
          clear hno hC2
          go_wp2
          go_loop [12] (fun i => ∃ j : Nat, k + 2 ≤ j ∧ j ≤ t.size ∧ i = .int .i64 j) (fun i => t.size - (intOf i).toNat)
          case atStart => exact ⟨k + 2, Nat.le_refl _, hk2, by go_num⟩
          case round =>
            obtain ⟨j, hj1, hj2, rfl⟩ := hrel
            by_cases hlj : j + 1 < t.size
            · have hjs : j < t.size := by omega
              have i1 : (j : Int) + 1 < (t.size : Int) := by omega
              have i2 : (j : Int) < (t.size : Int) := by omega
              have i3 : ((j : Int) + 1).toNat = j + 1 := by omega
              have hcj : t[j].toNat < 256 := t[j].toNat_lt
              have hcj2 : t[j + 1].toNat < 256 := t[j + 1].toNat_lt
              by_cases h58 : (t[j].toNat : Int) = 58
              · have h93 := Hno.out j hlj hj1 h58
                have b1 : ((t[j].toNat : Int) == 58) = true := by simpa using h58
                have b2 : ((t[j + 1].toNat : Int) == 93) = false := by simpa using h93
                clear h58 h93
                go_wp2
                go_round
                case rel => exact ⟨j + 1, by omega, by omega, by go_num⟩
                case measure => simp [intOf]; omega
              · have b1 : ((t[j].toNat : Int) == 58) = false := by simpa using h58
                go_wp2
                go_round
                case rel => exact ⟨j + 1, by omega, by omega, by go_num⟩
                case measure => simp [intOf]; omega
            · have i1 : ¬(j : Int) + 1 < (t.size : Int) := by omega
              have i2 : (t.size : Int) ≤ (j : Int) + 1 := by omega
              go_wp2
              refine bodyPost_ret (v := .tuple #[.slice (some ⟨w.heap.size, 0, none⟩) 256 256, .int .i64 (-1)]) (by simp [results, Tryz.results23, go_sem]) rfl ?_
              exact .bad hb hsz2 HN.out
        | some q =>
          obtain ⟨name, r⟩ := q
          obtain ⟨hL, hnL⟩ := cut2_some hC2
          have hlen : t.size = k + 2 + (name.length + (2 + r.length)) := by
            have := congrArg List.length hL
            rw [List.length_drop, Array.length_toList] at this
            simp only [List.length_append, List.length_cons] at this
            have : t.data.size = t.size := rfl
            omega
          obtain ⟨E, hE⟩ : ∃ E, E = k + 2 + name.length := ⟨_, rfl⟩
          have hE1 : E + 1 < t.size := by omega
          have hEs : E < t.size := by omega
          have hE58 : (t[E].toNat : Int) = 58 := by
            have := Hget.out E hEs (by omega)
            rw [hL, show E - (k + 2) = name.length by omega, List.getElem?_append_right (Nat.le_refl _), Nat.sub_self] at this
            have h3 : (58 : UInt8) = t[E] := by simpa using this
            rw [← h3]; rfl
          have hE93 : (t[E + 1].toNat : Int) = 93 := by
            have := Hget.out (E + 1) hE1 (by omega)
            rw [hL, show E + 1 - (k + 2) = name.length + 1 by omega, List.getElem?_append_right (by omega), show name.length + 1 - name.length = 1 by omega] at this
            have h3 : (93 : UInt8) = t[E + 1] := by simpa using this
            rw [← h3]; rfl
          have hno : ∀ x (hx : x + 1 < t.size), k + 2 ≤ x → x < E → ((t[x]'(Nat.lt_of_succ_lt hx)).toNat : Int) = 58 → ¬(t[x + 1].toNat : Int) = 93 := by
            intro x hx hkx hxE h58 h93
            have g1 := Hget.out x (by omega) hkx
            have g2 := Hget.out (x + 1) hx (by omega)
            rw [show x + 1 - (k + 2) = x - (k + 2) + 1 by omega] at g2
            refine hnL (x - (k + 2)) (by omega) ⟨?_, ?_⟩
            · rw [g1]; congr 1; exact UInt8.toNat_inj.1 (by have : (58 : UInt8).toNat = 58 := rfl; omega)
            · rw [g2]; congr 1; exact UInt8.toNat_inj.1 (by have : (93 : UInt8).toNat = 93 := rfl; omega)
          obtain ⟨I, hI⟩ : ∃ I, I = t.extract (k + 2) E := ⟨_, rfl⟩
          have HI : Hid (I.data.toList = name) := by
            show _ = _
            rw [hI, ext_list, hL, show E - (k + 2) = name.length by omega]
            simp
          have HII : Hid (t.extract (k + 2) E = I) := hI.symm
          have HICs : Hid (itemF (t.data.toList.drop k) = match classF name with | none => none | some f => some (f, name.length + 4)) := by show _ = _; rw [HIC.out, hC2]; rfl
          have hEk : k + 2 ≤ E := by omega
          have HE : Hid _ := hE
          have Hno : Hid _ := hno
          have Hlen : Hid _ := hlen
          clear hno hC2 hL hnL hE hI HIC hlen
          go_wp2
          go_loop [12] (fun i => ∃ j : Nat, k + 2 ≤ j ∧ j ≤ E ∧ i = .int .i64 j) (fun i => t.size - (intOf i).toNat)
          case atStart => exact ⟨k + 2, Nat.le_refl _, hEk, by go_num⟩
          case round =>
            obtain ⟨j, hj1, hj2, rfl⟩ := hrel
            by_cases hlj : j < E
            · have hlj2 : j + 1 < t.size := by omega
              have hjs : j < t.size := by omega
              have i1 : (j : Int) + 1 < (t.size : Int) := by omega
              have i2 : (j : Int) < (t.size : Int) := by omega
              have i3 : ((j : Int) + 1).toNat = j + 1 := by omega
              have hcj : t[j].toNat < 256 := t[j].toNat_lt
              have hcj2 : t[j + 1].toNat < 256 := t[j + 1].toNat_lt
              by_cases h58 : (t[j].toNat : Int) = 58
              · have h93 := Hno.out j hlj2 hj1 hlj h58
                have b1 : ((t[j].toNat : Int) == 58) = true := by simpa using h58
                have b2 : ((t[j + 1].toNat : Int) == 93) = false := by simpa using h93
                clear h58 h93
                go_wp2
                go_round
                case rel => exact ⟨j + 1, by omega, by omega, by go_num⟩
                case measure => simp [intOf]; omega
              · have b1 : ((t[j].toNat : Int) == 58) = false := by simpa using h58
                go_wp2
                go_round
                case rel => exact ⟨j + 1, by omega, by omega, by go_num⟩
                case measure => simp [intOf]; omega
            · have hjE : j = E := by omega
              subst hjE
              have i1 : (j : Int) + 1 < (t.size : Int) := by omega
              have i2 : (j : Int) < (t.size : Int) := by omega
              have i3 : ((j : Int) + 1).toNat = j + 1 := by omega
              have i4 : ((k : Int) + 2).toNat = k + 2 := by omega
              have i5 : (k : Int) + 2 ≤ (j : Int) := by omega
              have i6 : (j : Int) ≤ (t.size : Int) := by omega
              have b1 : ((t[j].toNat : Int) == 58) = true := by simpa using hE58
              have b2 : ((t[j + 1].toNat : Int) == 93) = true := by simpa using hE93
              have hcj : t[j].toNat < 256 := t[j].toNat_lt
              have hcj2 : t[j + 1].toNat < 256 := t[j + 1].toNat_lt
              clear hE58 hE93
              go_wp2_with fail
              rw [HII.out]
              refine (l1ClassNames_ok _).mono ?_
              rintro e w5 ⟨rfl, hnm, b5⟩
              have Hr5 : Hid (BRow w5 w.heap.size f) := row_below Hr.out b5
              have hb5 := below_step hb hb.size b5
              have hsz5 := row_lt Hr5.out
              have Hnm : Hid _ := hnm
              clear hnm
              go_wp2
              go_loop [14, 124] (fun kn i => ∃ j : Nat, j ≤ 9 ∧ i = .int .i64 j ∧ kn = .bool (decide (name ∈ namesL.take j))) (fun _ i => 9 - (intOf i).toNat)
              case atStart => exact ⟨0, by omega, rfl, rfl⟩
              case round =>
                obtain ⟨y, hy, rfl, rfl⟩ := hrel
                by_cases hly : y < 9
                · obtain ⟨Q, hQ⟩ : ∃ Q : ByteArray, Q = ⟨(namesL.getD y []).toArray⟩ := ⟨_, rfl⟩
                  have c0 : w5.cell? ⟨wc.heap.size, y, none⟩ = some (.string Q) := by
                    rw [cell_of_row _ _ _ _ _ _ Hnm.out, hQ]
                    show (namesL.map strV).toArray[y]? = _
                    have hyl : y < namesL.length := hly
                    rw [List.getElem?_toArray, List.getElem?_map, List.getElem?_eq_getElem hyl, List.getD_eq_getElem?_getD, List.getElem?_eq_getElem hyl]
                    rfl
                  have hQl : Q.data.toList = namesL.getD y [] := by rw [hQ]
                  have htk : namesL.take (y + 1) = namesL.take y ++ [namesL.getD y []] := by
                    have hyl : y < namesL.length := hly
                    rw [List.take_succ_eq_append_getElem hyl, List.getD_eq_getElem?_getD, List.getElem?_eq_getElem hyl]
                    rfl
                  have Htk : Hid _ := htk
                  have HQl : Hid _ := hQl
                  clear hQ htk hQl
                  by_cases hen : namesL.getD y [] = name
                  · have q1 : (Q.toList == I.toList) = true := by rw [toList_eq, toList_eq, HQl.out, HI.out, hen]; exact beq_self_eq_true _
                    have HV : Hid (decide (name ∈ namesL.take (y + 1)) = true) := by show _ = _; rw [Htk.out, hen]; simp
                    clear hen
                    go_wp2
                    go_round
                    case rel => exact ⟨y + 1, by omega, by go_num, by rw [HV.out]⟩
                    case measure => simp [intOf]; omega
                  · have q1 : (Q.toList == I.toList) = false := by rw [toList_eq, toList_eq, HQl.out, HI.out]; exact beq_eq_false_iff_ne.2 hen
                    have HV : Hid (decide (name ∈ namesL.take (y + 1)) = decide (name ∈ namesL.take y)) := by
                      show _ = _
                      rw [Htk.out, decide_eq_decide]
                      simp only [List.mem_append, List.mem_singleton]
                      exact ⟨fun h => h.resolve_right (fun e => hen e.symm), .inl⟩
                    clear hen
                    go_wp2
                    go_round
                    case rel => exact ⟨y + 1, by omega, by go_num, by rw [HV.out]⟩
                    case measure => simp [intOf]; omega
                · have hy9 : y = 9 := by omega
                  subst hy9
                  have hall : decide (name ∈ namesL.take 9) = (classF name).isSome := by rw [class_known]; rfl
                  rw [hall]
                  clear hall
                  cases hcf : classF name with
                  | none =>
                    have HN : Hid _ := HS.out.badI Hne.out (by rw [HICs.out, hcf])
                    show Code.wp _ _ _ _ _
                    unfold Option.isSome
                    go_wp2
                    refine bodyPost_ret (v := .tuple #[.slice (some ⟨w.heap.size, 0, none⟩) 256 256, .int .i64 (-1)]) (by simp [results, Tryz.results23, go_sem]) rfl ?_
                    exact .bad hb5 hsz5 HN.out
                  | some g =>
                    have hcb : ∀ x, classB name x = g x := fun x => by unfold classB; rw [hcf]
                    have HIt : Hid (itemF (t.data.toList.drop k) = some (g, name.length + 4)) := by show _ = _; rw [HICs.out, hcf]
                    have Hcb : Hid _ := hcb
                    clear hcb hcf
                    show Code.wp _ _ _ _ _
                    unfold Option.isSome
                    go_wp2
                    go_loopw [17] (fun c wz => ∃ m : Nat, m ≤ 256 ∧ c = .int .i64 m ∧ Below w.heap.size w wz ∧ BRow wz w.heap.size (fun x => f x || (decide (x < m) && g x)))
                      (fun c _ => 256 - (intOf c).toNat)
                    case atStart => exact ⟨0, by omega, rfl, hb5, Hr5.out.congr (fun c _ => by simp)⟩
                    case round =>
                      obtain ⟨m, hm, rfl, hbz, hrz⟩ := hrel
                      by_cases hlm : m < 256
                      · have hC := l1InClass_ok I m (m : Int) wr rfl
                        rw [HI.out, Hcb.out] at hC
                        have c0 : wr.cell? ⟨w.heap.size, m, none⟩ = some (.bool (f m || (decide (m < m) && g m))) := hrz.get hlm
                        have f0 := hrz.thaw m
                        generalize (f m || (decide (m < m) && g m)) = old at c0
                        have HP : Hid (BRow (wr.setCell ⟨w.heap.size, m, none⟩ (.bool true)) w.heap.size (fun c => if c = m then true else (f c || (decide (c < m) && g c)))) := hrz.put m true
                        have Hrz : Hid (BRow wr w.heap.size (fun x => f x || (decide (x < m) && g x))) := hrz
                        clear hrz
                        cases hg : g m
                        · rw [hg] at hC
                          go_wp2_with fail
                          refine hC.mono ?_
                          rintro e w6 ⟨rfl, rfl⟩
                          go_wp2
                          go_roundw
                          case rel =>
                            refine ⟨m + 1, by omega, by go_num, hbz, Hrz.out.congr fun c _ => ?_⟩
                            by_cases e : c = m
                            · subst e; simp [hg]
                            · rw [decide_eq_decide.2 (show c < m ↔ c < m + 1 by omega)]
                          case measure => simp [intOf]; omega
                        · rw [hg] at hC
                          go_wp2_with fail
                          refine hC.mono ?_
                          rintro e w6 ⟨rfl, rfl⟩
                          go_wp2
                          go_roundw
                          case rel =>
                            refine ⟨m + 1, by omega, by go_num, hbz.setCell (by simp) _, HP.out.congr fun c _ => ?_⟩
                            by_cases e : c = m
                            · subst e; simp [hg]
                            · rw [if_neg e, decide_eq_decide.2 (show c < m ↔ c < m + 1 by omega)]
                          case measure => simp [intOf]; omega
                      · have hm6 : m = 256 := by omega
                        subst hm6
                        have HRz : Hid (BRow wr w.heap.size (orB f g)) := hrz.congr fun c hc => by simp [orB, hc]
                        clear hrz
                        go_wp2
                        go_roundw
                        case rel => exact ⟨k + (name.length + 4), orB f g, by have := HE.out; congr 1; omega, HRz.out, hbz, HS.out.step hlt Hne.out HIt.out (by have := Hlen.out; omega) rfl⟩
                        case measure => have := HE.out; simp [intOf]; omega
      go_upto_region 18 with fail
      go_cut [87] from 80 to 87 (fun v wx => v = .bool false ∧ wx = wc)
      case first =>
        by_cases e1 : (t[k].toNat : Int) = 91
        · have e1b : ((t[k].toNat : Int) == 91) = true := by simpa using e1
          have e2b : (T1 == 58) = false := by simp; omega
          clear e1
          go_wp2_with fail
          go_meet
          case rel => exact ⟨rfl, rfl⟩
        · have e1b : ((t[k].toNat : Int) == 91) = false := by simpa using e1
          go_wp2_with fail
          go_meet
          case rel => exact ⟨rfl, rfl⟩
      obtain ⟨rfl, rfl⟩ := hcut
      go_wp2_with fail
      refine HC2.mono ?_
      rintro e w2 ⟨rfl, rfl⟩
      clear HC2
      by_cases h45 : T1 = 45
      case neg =>
        have h45b : (T1 == 45) = false := by simpa using h45
        go_wp2
        have HI : Hid (itemF (t.data.toList.drop k) = some (rangeB (t[k].toNat : Int) (t[k].toNat : Int), 1)) := by
          show _ = _
          rw [itemF_char (by rw [HE0.out, HE1.out]; omega) (by rw [HE1.out, HE2.out]; first | omega | (have := HT2c.out; omega)), HE0.out]
        go_loopw [22] (fun c wz => ∃ m : Nat, t[k].toNat ≤ m ∧ (m = t[k].toNat ∨ (m : Int) ≤ (t[k].toNat : Int) + 1) ∧ c = .int .i64 m ∧ Below w.heap.size w wz ∧ BRow wz w.heap.size (markUp f t[k].toNat m))
          (fun c _ => ((t[k].toNat : Int) + 1 - intOf c).toNat)
        case atStart => exact ⟨t[k].toNat, Nat.le_refl _, .inl rfl, rfl, hb, by unfold BRow; rw [markUp_zero]; exact Hr.out⟩
        case round =>
          obtain ⟨m, hm1, hm2, rfl, hbz, hrz⟩ := hrel
          by_cases hlz : (m : Int) ≤ (t[k].toNat : Int)
          · have hm3 : m < 256 := by omega
            have c0 := hrz.get hm3
            have f0 := hrz.thaw m
            generalize markUp f t[k].toNat m m = old at c0
            obtain ⟨WZ, hWZ⟩ : ∃ WZ, WZ = wr := ⟨_, rfl⟩
            subst hWZ
            have HP : Hid (BRow (WZ.setCell ⟨w.heap.size, m, none⟩ (.bool true)) w.heap.size (markUp f t[k].toNat (m + 1))) := by
              show BRow _ _ _
              unfold BRow
              rw [heap_setCell_same _ _ _ _ _ _ hrz, marksArr_set, markUp_succ _ _ _ hm1]
            clear hrz
            go_wp2
            go_roundw
            case rel => exact ⟨m + 1, by omega, by omega, by go_num, hbz.setCell (by simp) _, HP.out⟩
            case measure => simp [intOf]; omega
          · have HRz : Hid _ := hrz.grown hm2 (show (t[k].toNat : Int) < m by omega)
            clear hrz
            go_wp2
            go_roundw
            case rel => exact ⟨k + 1, _, by go_num, HRz.out, hbz, HS.out.step hlt Hne.out HI.out (by have := HT2l.out; omega) rfl⟩
            case measure => simp [intOf]; omega
      have h45b : (T1 == 45) = true := by simpa using h45
      have H45 : Hid _ := h45
      clear h45
      by_cases hT2p : 0 ≤ T2
      case neg =>
        go_wp2
        have HI : Hid (itemF (t.data.toList.drop k) = some (rangeB (t[k].toNat : Int) (t[k].toNat : Int), 1)) := by
          show _ = _
          rw [itemF_char (by rw [HE0.out, HE1.out]; omega) (by rw [HE1.out, HE2.out]; first | omega | (have := HT2c.out; omega)), HE0.out]
        go_loopw [22] (fun c wz => ∃ m : Nat, t[k].toNat ≤ m ∧ (m = t[k].toNat ∨ (m : Int) ≤ (t[k].toNat : Int) + 1) ∧ c = .int .i64 m ∧ Below w.heap.size w wz ∧ BRow wz w.heap.size (markUp f t[k].toNat m))
          (fun c _ => ((t[k].toNat : Int) + 1 - intOf c).toNat)
        case atStart => exact ⟨t[k].toNat, Nat.le_refl _, .inl rfl, rfl, hb, by unfold BRow; rw [markUp_zero]; exact Hr.out⟩
        case round =>
          obtain ⟨m, hm1, hm2, rfl, hbz, hrz⟩ := hrel
          by_cases hlz : (m : Int) ≤ (t[k].toNat : Int)
          · have hm3 : m < 256 := by omega
            have c0 := hrz.get hm3
            have f0 := hrz.thaw m
            generalize markUp f t[k].toNat m m = old at c0
            obtain ⟨WZ, hWZ⟩ : ∃ WZ, WZ = wr := ⟨_, rfl⟩
            subst hWZ
            have HP : Hid (BRow (WZ.setCell ⟨w.heap.size, m, none⟩ (.bool true)) w.heap.size (markUp f t[k].toNat (m + 1))) := by
              show BRow _ _ _
              unfold BRow
              rw [heap_setCell_same _ _ _ _ _ _ hrz, marksArr_set, markUp_succ _ _ _ hm1]
            clear hrz
            go_wp2
            go_roundw
            case rel => exact ⟨m + 1, by omega, by omega, by go_num, hbz.setCell (by simp) _, HP.out⟩
            case measure => simp [intOf]; omega
          · have HRz : Hid _ := hrz.grown hm2 (show (t[k].toNat : Int) < m by omega)
            clear hrz
            go_wp2
            go_roundw
            case rel => exact ⟨k + 1, _, by go_num, HRz.out, hbz, HS.out.step hlt Hne.out HI.out (by have := HT2l.out; omega) rfl⟩
            case measure => simp [intOf]; omega
      by_cases hT2c : T2 = 93
      case pos =>
        have hT2d : (T2 != 93) = false := by simpa using hT2c
        have HT2c : Hid _ := hT2c
        clear hT2c
        go_wp2
        have HI : Hid (itemF (t.data.toList.drop k) = some (rangeB (t[k].toNat : Int) (t[k].toNat : Int), 1)) := by
          show _ = _
          rw [itemF_char (by rw [HE0.out, HE1.out]; omega) (by rw [HE1.out, HE2.out]; first | omega | (have := HT2c.out; omega)), HE0.out]
        go_loopw [22] (fun c wz => ∃ m : Nat, t[k].toNat ≤ m ∧ (m = t[k].toNat ∨ (m : Int) ≤ (t[k].toNat : Int) + 1) ∧ c = .int .i64 m ∧ Below w.heap.size w wz ∧ BRow wz w.heap.size (markUp f t[k].toNat m))
          (fun c _ => ((t[k].toNat : Int) + 1 - intOf c).toNat)
        case atStart => exact ⟨t[k].toNat, Nat.le_refl _, .inl rfl, rfl, hb, by unfold BRow; rw [markUp_zero]; exact Hr.out⟩
        case round =>
          obtain ⟨m, hm1, hm2, rfl, hbz, hrz⟩ := hrel
          by_cases hlz : (m : Int) ≤ (t[k].toNat : Int)
          · have hm3 : m < 256 := by omega
            have c0 := hrz.get hm3
            have f0 := hrz.thaw m
            generalize markUp f t[k].toNat m m = old at c0
            obtain ⟨WZ, hWZ⟩ : ∃ WZ, WZ = wr := ⟨_, rfl⟩
            subst hWZ
            have HP : Hid (BRow (WZ.setCell ⟨w.heap.size, m, none⟩ (.bool true)) w.heap.size (markUp f t[k].toNat (m + 1))) := by
              show BRow _ _ _
              unfold BRow
              rw [heap_setCell_same _ _ _ _ _ _ hrz, marksArr_set, markUp_succ _ _ _ hm1]
            clear hrz
            go_wp2
            go_roundw
            case rel => exact ⟨m + 1, by omega, by omega, by go_num, hbz.setCell (by simp) _, HP.out⟩
            case measure => simp [intOf]; omega
          · have HRz : Hid _ := hrz.grown hm2 (show (t[k].toNat : Int) < m by omega)
            clear hrz
            go_wp2
            go_roundw
            case rel => exact ⟨k + 1, _, by go_num, HRz.out, hbz, HS.out.step hlt Hne.out HI.out (by have := HT2l.out; omega) rfl⟩
            case measure => simp [intOf]; omega
      have hT2d : (T2 != 93) = true := by simpa using hT2c
      go_wp2_with fail
      refine HC3.mono ?_
      rintro e w2 ⟨rfl, rfl⟩
      clear HC3
      by_cases hel : T2 = 91 ∧ (T3 = 46 ∨ T3 = 61 ∨ T3 = 58)
      case pos =>
        have HN : Hid _ := HS.out.badI Hne.out (itemF_bad (by rw [HE1.out]; exact H45.out) (by rw [HE2.out]; exact hT2p) (by rw [HE2.out]; exact hT2c) (by rw [HE0.out, HE2.out, HE3.out]; omega))
        have hsz2 := row_lt Hr.out
        obtain ⟨e1, e2⟩ := hel
        have e1b : (T2 == 91) = true := by simpa using e1
        clear e1
        by_cases e3 : T3 = 46
        · have e3b : (T3 == 46) = true := by simpa using e3
          clear e3 e2
          go_wp2
          refine bodyPost_ret (v := .tuple #[.slice (some ⟨w.heap.size, 0, none⟩) 256 256, .int .i64 (-1)]) (by simp [results, Tryz.results23, go_sem]) rfl ?_
          exact .bad hb hsz2 HN.out
        have e3b : (T3 == 46) = false := by simpa using e3
        by_cases e4 : T3 = 61
        · have e4b : (T3 == 61) = true := by simpa using e4
          clear e4 e2 e3
          go_wp2
          refine bodyPost_ret (v := .tuple #[.slice (some ⟨w.heap.size, 0, none⟩) 256 256, .int .i64 (-1)]) (by simp [results, Tryz.results23, go_sem]) rfl ?_
          exact .bad hb hsz2 HN.out
        have e4b : (T3 == 61) = false := by simpa using e4
        have e5b : (T3 == 58) = true := by simp; omega
        clear e4 e2 e3
        go_wp2
        refine bodyPost_ret (v := .tuple #[.slice (some ⟨w.heap.size, 0, none⟩) 256 256, .int .i64 (-1)]) (by simp [results, Tryz.results23, go_sem]) rfl ?_
        exact .bad hb hsz2 HN.out
      go_upto_region 45 with fail
      go_cut [183] from 170 to 183 (fun v wx => v = .bool false ∧ wx = w2)
      case first =>
        by_cases e1 : T2 = 91
        · have e1b : (T2 == 91) = true := by simpa using e1
          have e2b : (T3 == 46) = false := by simp; omega
          have e3b : (T3 == 61) = false := by simp; omega
          have e4b : (T3 == 58) = false := by simp; omega
          clear e1
          go_wp2_with fail
          go_meet
          case rel => exact ⟨rfl, rfl⟩
        · have e1b : (T2 == 91) = false := by simpa using e1
          go_wp2_with fail
          go_meet
          case rel => exact ⟨rfl, rfl⟩
      obtain ⟨rfl, rfl⟩ := hcut
      by_cases hlo : T2 < (t[k].toNat : Int)
      case pos =>
        have HN : Hid _ := HS.out.badI Hne.out (itemF_bad (by rw [HE1.out]; exact H45.out) (by rw [HE2.out]; exact hT2p) (by rw [HE2.out]; exact hT2c) (by rw [HE0.out, HE2.out, HE3.out]; omega))
        have hsz2 := row_lt Hr.out
        go_wp2
        refine bodyPost_ret (v := .tuple #[.slice (some ⟨w.heap.size, 0, none⟩) 256 256, .int .i64 (-1)]) (by simp [results, Tryz.results23, go_sem]) rfl ?_
        exact .bad hb hsz2 HN.out
      go_wp2
      have HI : Hid (itemF (t.data.toList.drop k) = some (rangeB (t[k].toNat : Int) T2, 3)) := by
        show _ = _
        rw [itemF_range (by rw [HE1.out]; exact H45.out) (by rw [HE2.out]; exact hT2p) (by rw [HE2.out]; exact hT2c) (by rw [HE0.out, HE2.out, HE3.out]; omega), HE0.out, HE2.out]
      go_loopw [22] (fun c wz => ∃ m : Nat, t[k].toNat ≤ m ∧ (m = t[k].toNat ∨ (m : Int) ≤ T2 + 1) ∧ c = .int .i64 m ∧ Below w.heap.size w wz ∧ BRow wz w.heap.size (markUp f t[k].toNat m))
        (fun c _ => (T2 + 1 - intOf c).toNat)
      case atStart => exact ⟨t[k].toNat, Nat.le_refl _, .inl rfl, rfl, hb, by unfold BRow; rw [markUp_zero]; exact Hr.out⟩
      case round =>
        obtain ⟨m, hm1, hm2, rfl, hbz, hrz⟩ := hrel
        by_cases hlz : (m : Int) ≤ T2
        · have hm3 : m < 256 := by omega
          have c0 := hrz.get hm3
          have f0 := hrz.thaw m
          generalize markUp f t[k].toNat m m = old at c0
          obtain ⟨WZ, hWZ⟩ : ∃ WZ, WZ = wr := ⟨_, rfl⟩
          subst hWZ
          have HP : Hid (BRow (WZ.setCell ⟨w.heap.size, m, none⟩ (.bool true)) w.heap.size (markUp f t[k].toNat (m + 1))) := by
            show BRow _ _ _
            unfold BRow
            rw [heap_setCell_same _ _ _ _ _ _ hrz, marksArr_set, markUp_succ _ _ _ hm1]
          clear hrz
          go_wp2
          go_roundw
          case rel => exact ⟨m + 1, by omega, by omega, by go_num, hbz.setCell (by simp) _, HP.out⟩
          case measure => simp [intOf]; omega
        · have HRz : Hid _ := hrz.grown hm2 (show T2 < m by omega)
          clear hrz
          go_wp2
          go_roundw
          case rel => exact ⟨k + 3, _, by go_num, HRz.out, hbz, HS.out.step hlt Hne.out HI.out (by have := HT2l.out; omega) rfl⟩
          case measure => simp [intOf]; omega
end Go.Proofs.YtgbdlgogccgciaaGreatDoor
