import Derived.Test.YtipndbhedaknnaaDoorPrgM
namespace Go.Proofs.YtipndbhedaknnaaDoor
open Go.RowKit
attribute [local go_sem ↓] Go.wp_at_zero Go.wp_at_succ

set_option maxRecDepth 100000 in
set_option maxHeartbeats 8000000 in
theorem heldStateS_ok (v : Value) (cv : Nat → Value) (ss : List StD) (k : Nat) (w : World) (h : StR w v cv (mkSts k ss)) (h1 : k ≤ 1000) (hl : ss.length ≤ 200) (hcs : ∀ s ∈ ss, s.cases.length ≤ 100) :
    Calls Tryd.prog 25 #[v, .int .i64 k] w fun e w' => e = .returned (.int .i64 (endK k ss : Nat)) ∧ Below w.heap.size w w' := by
  obtain ⟨ao, cap, rfl, hc⟩ := h
  rw [mkSts_len] at *
  go_enter Tryd.func25, Tryd.ntmps25
  go_wp2
  go_loopw [1, 5] (fun kk i wr => ∃ (P R : List StD), Hid (ss = P ++ R) ∧ P.length ≤ ss.length ∧ i = .int .i64 P.length ∧ kk = .int .i64 (endK k P : Nat) ∧ Below w.heap.size w wr)
    (fun _ i _ => ss.length - (intOf i).toNat)
  case atStart => exact ⟨[], ss, rfl, Nat.zero_le _, rfl, rfl, Below.refl _ _⟩
  case round =>
    obtain ⟨P, R, HE, hP, rfl, rfl, hb⟩ := hrel
    cases R with
    | nil =>
      have hPe : Hid (P = ss) := by show _ = _; have := HE.out; simpa using this.symm
      have hlen : P.length = ss.length := by rw [hPe.out]
      have hi1 : ¬(P.length : Int) < (ss.length : Int) := by omega
      obtain ⟨q, hq⟩ : ∃ q, endK k P = q := ⟨_, rfl⟩
      obtain ⟨pl, hpl⟩ : ∃ pl, P.length = pl := ⟨_, rfl⟩
      have HQ : Hid _ := hq
      rw [hq]
      rw [hpl] at hi1 ⊢
      clear hlen hpl hq
      go_wp2
      go_ret
      refine ⟨?_, hb⟩
      rw [show endK k ss = q by rw [← hPe.out]; exact HQ.out]
      rfl
    | cons s D =>
      have hlt : P.length < ss.length := by have := HE.out; rw [this]; simp
      have hsc : s.cases.length ≤ 100 := hcs s (by have := HE.out; rw [this]; simp)
      have hq9 : endK k P ≤ 100000 := by
        have := endK_le k P (fun s hs => hcs s (by have := HE.out; rw [this]; simp [hs]))
        omega
      have HM : Hid (mkSts k ss = mkSts k P ++ mkSt (endK k P) s :: mkSts (endK k P + 4 * s.cases.length + 9) D) := by show _ = _; have := HE.out; rw [this]; exact mkSts_mid k P s D
      have hA : (mkSts k P).length = P.length := mkSts_len k P
      have hg : (mkSts k ss)[P.length]'(by rw [mkSts_len]; exact hlt) = mkSt (endK k P) s := by
        simp only [HM.out, ← hA]
        simp
      obtain ⟨⟨sg, rfl, hsl, hcc⟩, hR⟩ := hc P.length (by rw [mkSts_len]; exact hlt)
      rw [hg] at hcc hR
      have HK : Hid (endK k (P ++ [s]) = endK k P + 4 * s.cases.length + 9) := endK_app k P s
      have HE2 : Hid (ss = (P ++ [s]) ++ D) := by show _ = _; have := HE.out; rw [this]; simp
      have HL : Hid ((P ++ [s]).length = P.length + 1) := by show _ = _; simp
      clear HM hA hg hc HE
      generalize endK k P = q at *
      obtain ⟨nc, hnc⟩ : ∃ nc, s.cases.length = nc := ⟨_, rfl⟩
      have HS : mkSt q s = ⟨mkCs q nc, ((q : Int) + 4 * (nc : Int)), ⟨((q : Int) + 4 * (nc : Int) + 1), ((q : Int) + 4 * (nc : Int) + 2), markF (q + 4 * nc + 3)⟩, fullF ((q : Int) + 4 * (nc : Int) + 4), ⟨((q : Int) + 4 * (nc : Int) + 5), ((q : Int) + 4 * (nc : Int) + 6), markF (q + 4 * nc + 7)⟩, ((q : Int) + 4 * (nc : Int) + 8)⟩ := by
        unfold mkSt
        rw [hnc]
        push_cast
        rfl
      rw [HS] at hcc hR
      rw [hnc] at HK hsc
      clear HS hnc
      dsimp only at hR
      generalize cv P.length = u0 at *
      obtain ⟨pl, hpl⟩ : ∃ pl, P.length = pl := ⟨_, rfl⟩
      rw [hpl] at hlt hP HL hcc ⊢
      clear hpl
      have c0 := (hb.cell (p := ⟨sg, pl * 10 + 0, none⟩) (by exact hsl)).trans (hcc 0 (by omega))
      have c1 := (hb.cell (p := ⟨sg, pl * 10 + 1, none⟩) (by exact hsl)).trans (hcc 1 (by omega))
      have c2 := (hb.cell (p := ⟨sg, pl * 10 + 2, none⟩) (by exact hsl)).trans (hcc 2 (by omega))
      have c3 := (hb.cell (p := ⟨sg, pl * 10 + 3, none⟩) (by exact hsl)).trans (hcc 3 (by omega))
      have c4 := (hb.cell (p := ⟨sg, pl * 10 + 4, none⟩) (by exact hsl)).trans (hcc 4 (by omega))
      have c5 := (hb.cell (p := ⟨sg, pl * 10 + 5, none⟩) (by exact hsl)).trans (hcc 5 (by omega))
      have c6 := (hb.cell (p := ⟨sg, pl * 10 + 6, none⟩) (by exact hsl)).trans (hcc 6 (by omega))
      have c7 := (hb.cell (p := ⟨sg, pl * 10 + 7, none⟩) (by exact hsl)).trans (hcc 7 (by omega))
      have c8 := (hb.cell (p := ⟨sg, pl * 10 + 8, none⟩) (by exact hsl)).trans (hcc 8 (by omega))
      have c9 := (hb.cell (p := ⟨sg, pl * 10 + 9, none⟩) (by exact hsl)).trans (hcc 9 (by omega))
      simp only [stCells, List.getElem?_cons_succ, List.getElem?_cons_zero, Nat.add_zero, fullF] at c0 c1 c2 c3 c4 c5 c6 c7 c8 c9
      have hsr : sg < wr.heap.size := Nat.lt_of_lt_of_le hsl hb.size
      have hm3 := fun (W : World) (ki : Int) (hki : ki = (q + 4 * nc + 3 : Nat)) => markText_ok (q + 4 * nc + 3) ki W hki (by omega)
      have hm7 := fun (W : World) (ki : Int) (hki : ki = (q + 4 * nc + 7 : Nat)) => markText_ok (q + 4 * nc + 7) ki W hki (by omega)
      obtain ⟨m3, hs3⟩ : ∃ m3 : ByteArray, strV (markF (q + 4 * nc + 3)) = .string m3 := ⟨_, rfl⟩
      obtain ⟨m7, hs7⟩ : ∃ m7 : ByteArray, strV (markF (q + 4 * nc + 7)) = .string m7 := ⟨_, rfl⟩
      rw [hs3] at hm3 c4
      rw [hs7] at hm7 c8
      clear hs3 hs7 hcc
      have hhc := heldCaseS_ok u0 nc q wr (hR.below hb) (by omega) (by omega)
      rw [show ((q + 4 * nc : Nat) : Int) = (q : Int) + 4 * (nc : Int) by omega] at hhc
      have hi0 : (0 : Int) ≤ (pl : Int) := by omega
      have hi1 : (pl : Int) < (ss.length : Int) := by omega
      have hp0 : ¬((q : Int) + 4 * (nc : Int)) < 0 := by omega
      have ne0 : ((q : Int) + 4 * (nc : Int) != (q : Int) + 4 * (nc : Int)) = false := by simp
      have ne1 : ((q : Int) + 4 * (nc : Int) + 1 != (q : Int) + 4 * (nc : Int) + 1) = false := by simp
      have ne2 : ((q : Int) + 4 * (nc : Int) + 1 + 1 != (q : Int) + 4 * (nc : Int) + 1 + 1) = false := by simp
      have ne5 : ((q : Int) + 4 * (nc : Int) + 1 + 1 + 1 + 1 + 1 != (q : Int) + 4 * (nc : Int) + 1 + 1 + 1 + 1 + 1) = false := by simp
      have ne6 : ((q : Int) + 4 * (nc : Int) + 1 + 1 + 1 + 1 + 1 + 1 != (q : Int) + 4 * (nc : Int) + 1 + 1 + 1 + 1 + 1 + 1) = false := by simp
      have ne8 : ((q : Int) + 4 * (nc : Int) + 1 + 1 + 1 + 1 + 1 + 1 + 1 + 1 != (q : Int) + 4 * (nc : Int) + 1 + 1 + 1 + 1 + 1 + 1 + 1 + 1) = false := by simp
      have ne4 : (!(((q : Int) + 4 * (nc : Int) + 4) % 3 == 0) == (((q : Int) + 4 * (nc : Int) + 1 + 1 + 1 + 1) % 3 == 0)) = false := by
        rw [show (q : Int) + 4 * (nc : Int) + 1 + 1 + 1 + 1 = (q : Int) + 4 * (nc : Int) + 4 by omega]
        simp
      go_wp2_with fail
      refine hhc.mono ?_
      rintro e w1 ⟨rfl, hb1⟩
      replace c1 := (hb1.cell (by exact hsr)).trans c1
      replace c2 := (hb1.cell (by exact hsr)).trans c2
      replace c3 := (hb1.cell (by exact hsr)).trans c3
      replace c4 := (hb1.cell (by exact hsr)).trans c4
      replace c5 := (hb1.cell (by exact hsr)).trans c5
      replace c6 := (hb1.cell (by exact hsr)).trans c6
      replace c7 := (hb1.cell (by exact hsr)).trans c7
      replace c8 := (hb1.cell (by exact hsr)).trans c8
      replace c9 := (hb1.cell (by exact hsr)).trans c9
      have bl1 := below_step hb hb.size hb1
      have sr1 : sg < w1.heap.size := Nat.lt_of_lt_of_le hsr hb1.size
      clear hhc hR hb1 hb
      go_wp2
      go_region_held3 (fun w' => w'.cell? ⟨sg, pl * 10 + 2 + 2, none⟩ = some (.string m3)) ((first | go_keep | exact (hb2.cell (by exact sr1)).trans c4)) ((go_at_call 31; refine (hm3 _ _ (by omega)).mono ?_; rintro e w2 ⟨rfl, hb2⟩))
      have hbd : Below w1.heap.size w1 w2 := below_step (Below.refl _ _).drew (Nat.le_refl _) hb2
      replace c5 := (hbd.cell (by exact sr1)).trans c5
      replace c6 := (hbd.cell (by exact sr1)).trans c6
      replace c7 := (hbd.cell (by exact sr1)).trans c7
      replace c8 := (hbd.cell (by exact sr1)).trans c8
      replace c9 := (hbd.cell (by exact sr1)).trans c9
      have sr2 : sg < w2.heap.size := Nat.lt_of_lt_of_le sr1 hbd.size
      have bl2 := below_step bl1 bl1.size hbd
      clear c1 c2 c3 c4 hm3 hbd hb2 bl1 sr1
      go_wp2
      go_region_held3 (fun w' => w'.cell? ⟨sg, pl * 10 + 6 + 2, none⟩ = some (.string m7)) ((first | go_keep | exact (hb3.cell (by exact sr2)).trans c8)) ((go_at_call 31; refine (hm7 _ _ (by omega)).mono ?_; rintro e w3 ⟨rfl, hb3⟩))
      have hbd3 : Below w2.heap.size w2 w3 := below_step (Below.refl _ _).drew (Nat.le_refl _) hb3
      replace c9 := (hbd3.cell (by exact sr2)).trans c9
      have bl3 := below_step bl2 bl2.size hbd3
      clear hbd3 hb3 bl2 c5 c6 c7 c8 hm7
      go_wp2
      go_roundw
      case rel => exact ⟨P ++ [s], D, HE2, by rw [HL.out]; omega, by rw [HL.out]; go_num, by
          rw [HK.out]
          have : ((q + 4 * nc + 9 : Nat) : Int) = (q : Int) + 4 * (nc : Int) + 1 + 1 + 1 + 1 + 1 + 1 + 1 + 1 + 1 := by omega
          rw [this], bl3⟩
      case measure => simp [intOf]; omega
end Go.Proofs.YtipndbhedaknnaaDoor
