import Derived.Test.YthgaeaihfbiolaaDoorRWgtSpec
namespace Go.Proofs.YthgaeaihfbiolaaDoor
open Go.RowKit

set_option maxRecDepth 100000 in
set_option maxHeartbeats 4000000 in
theorem specRuleOK_ok {lo : Nat} (G : Int) (v : Value) (bs : List BranchD) (w : World) (hs : BranchesAt lo w v bs) (hsm : Small bs) :
    Calls Tryd.prog 25 #[.agg #[v, .int .i64 G]] w fun e w' => e = .returned (.bool (specB G bs)) ∧ Below w.heap.size w w' := by
  have hn := hsm.1
  have hs0 := hs
  obtain ⟨ao, cap, rfl, hm, hc⟩ := hs
  have hb0 : Below w.heap.size w (w.alloc (.cells #[.slice ao bs.length cap, .int .i64 G] 29)) := (Below.refl _ _).alloc (Nat.le_refl _) _
  by_cases h1 : btw (bs.length : Int) 1 2000 = false
  · have H : Hid (specB G bs = false) := by
      show _ = _
      have : decide (1 ≤ bs.length ∧ bs.length ≤ 2000) = false := by simp [btw] at h1; simp; omega
      simp [specB, this]
    go_enter Tryd.func25, Tryd.ntmps25
    go_wp2_with (go_at_call 46; refine (between_ok _ _ _ _).mono ?_; rintro e w' ⟨rfl, rfl⟩)
    go_ret
    exact ⟨ret_bool H.out.symm, hb0⟩
  have h1' : btw (bs.length : Int) 1 2000 = true := by simpa using h1
  clear h1
  by_cases h2 : btw G 0 500 = false
  · have H : Hid (specB G bs = false) := by
      show _ = _
      have : decide (0 ≤ G ∧ G ≤ 500) = false := by simp [btw] at h2; simp; omega
      simp [specB, this]
    go_enter Tryd.func25, Tryd.ntmps25
    go_wp2_with (go_at_call 46; refine (between_ok _ _ _ _).mono ?_; rintro e w' ⟨rfl, rfl⟩)
    go_ret
    exact ⟨ret_bool H.out.symm, hb0⟩
  have h2' : btw G 0 500 = true := by simpa using h2
  clear h2
  have hlen : 1 ≤ bs.length ∧ bs.length ≤ 2000 := by simp [btw] at h1'; omega
  have hG : 0 ≤ G ∧ G ≤ 500 := by simp [btw] at h2'; omega
  obtain ⟨hG0, hG1⟩ := hG
  have HA : Hid (specB G bs = (decide (nodeCount bs ≤ 5000) && allB bs && (((allGrp bs).length : Int) == G) && onceB G (allGrp bs) && decide (ruleW bs ≤ 2000))) := by
    show _ = _
    have e1 : decide (1 ≤ bs.length ∧ bs.length ≤ 2000) = true := by simp; omega
    have e2 : decide (0 ≤ G ∧ G ≤ 500) = true := by simp; omega
    unfold specB
    rw [e1, e2, Bool.true_and, Bool.true_and]
  obtain ⟨i0, hi, hz0, hz1, hz2⟩ := info_parts Tryd.infoInt
  go_enter Tryd.func25, Tryd.ntmps25
  go_wp2_with (go_at_call 46; refine (between_ok _ _ _ _).mono ?_; rintro e w' ⟨rfl, rfl⟩)
  have hinv0 : RInv w ((w.alloc (.cells #[.slice ao bs.length cap, .int .i64 G] 29)).alloc (.cells #[] 3)) (.slice ao bs.length cap) G (w.heap.size + 1) 0 [] := ⟨hb0.alloc hb0.size _, by simp, by simp, ownsRow_new_at _ _ _ _ (by omega) (by simp), by simp⟩
  go_loopw [3, 33] (fun s i wr => ∃ k : Nat, k ≤ bs.length ∧ i = .int .i64 k ∧ s = .int .i64 (nodeCount (bs.take k)) ∧ RInv w wr (.slice ao bs.length cap) G (w.heap.size + 1) 0 [])
    (fun _ i _ => bs.length - (intOf i).toNat)
  case atStart => exact ⟨0, Nat.zero_le _, rfl, rfl, hinv0⟩
  case round =>
    clear hinv0
    obtain ⟨k, hk, rfl, rfl, hinv⟩ := hrel
    have hcb := nodeCount_bd hsm k hk
    by_cases hlt : k < bs.length
    · obtain ⟨b, o, nv, bd, rfl, Hn, hbl, c0, c1, c2, hnv⟩ := hc.elem hinv.below hlt
      have hnl : bd.nodes.length ≤ 1048576 := by have := (hsm.2 k hlt).1; rw [Hn.out] at this; exact this
      obtain ⟨nao, ncp, rfl, hnm, hnc⟩ := hnv
      have HT : Hid _ := nodeCount_take bs k hlt
      rw [Hn.out] at HT
      generalize nodeCount (bs.take k) = s at *
      go_wp2
      go_roundw
      case rel => exact ⟨k + 1, by omega, by go_num, by rw [HT.out]; go_num, hinv.alloc _⟩
      case measure => simp [intOf]; omega
    have hkk : bs.take k = bs := List.take_of_length_le (by omega)
    rw [hkk] at hcb ⊢
    clear hkk
    by_cases h5 : 5000 < (nodeCount bs : Int)
    · have H : Hid (specB G bs = false) := by
        show _ = _
        have : decide (nodeCount bs ≤ 5000) = false := by simp; omega
        rw [HA.out, this]; simp
      have hbb := hinv.below
      have hx0 := hinv.box0
      clear HA
      go_wp2
      go_ret
      exact ⟨ret_bool H.out.symm, hbb⟩
    have h5' : nodeCount bs ≤ 5000 := by omega
    have e5 : decide (nodeCount bs ≤ 5000) = true := by simpa using h5'
    rw [e5, Bool.true_and] at HA
    clear e5 hcb
    have hx0 := hinv.box0
    go_wp2
    generalize hcn : nodeCount bs = cn at *
    have Hcn : Hid _ := hcn
    clear hcn
    go_loopw [4, 48] (fun s i wr => ∃ (k gg cc : Nat), k ≤ bs.length ∧ i = .int .i64 k ∧ s = .slice (some ⟨gg, 0, none⟩) (allGrp (bs.take k)).length cc ∧ RInv w wr (.slice ao bs.length cap) G gg cc (allGrp (bs.take k)) ∧ Hid (allB (bs.take k) = true))
      (fun _ i _ => bs.length - (intOf i).toNat)
    case atStart => exact ⟨0, w.heap.size + 1, 0, Nat.zero_le _, rfl, rfl, hinv, rfl⟩
    case round =>
      clear hinv hx0
      obtain ⟨k2, gg, cc, hk2, rfl, rfl, hinv, Hall⟩ := hrel
      by_cases hlt2 : k2 < bs.length
      · obtain ⟨b, o, nv, bd, rfl, Hn, hbl, q0, q1, q2, hnv⟩ := hc.elem (Below.refl _ _) hlt2
        have c0 := (hinv.below.cell (p := ⟨b, o + k2 * 3, none⟩) hbl).trans q0
        have c1 := (hinv.below.cell (p := ⟨b, o + k2 * 3 + 1, none⟩) hbl).trans q1
        have c2 := (hinv.below.cell (p := ⟨b, o + k2 * 3 + 2, none⟩) hbl).trans q2
        clear q0 q1 q2
        have hnl : bd.nodes.length ≤ 1048576 := by have := (hsm.2 k2 hlt2).1; rw [Hn.out] at this; exact this
        have hgl : (allGrp (bs.take k2)).length + bd.nodes.length ≤ 5000 := by
          have e1 := allGrp_len (bs.take k2)
          have e2 := nodeCount_take bs k2 hlt2
          have e3 := nodeCount_le bs (k2 + 1)
          rw [Hn.out] at e2
          rw [Hcn.out] at e3
          omega
        obtain ⟨nao, ncp, rfl, hnm, hnc⟩ := hnv
        have hinva := hinv.alloc (.cells #[.bool bd.bol, .bool bd.eol, .slice nao bd.nodes.length ncp] 37)
        have hnva : NodesAt lo (wr.alloc (.cells #[.bool bd.bol, .bool bd.eol, .slice nao bd.nodes.length ncp] 37)) (.slice nao bd.nodes.length ncp) bd.nodes := NodesAt.below ⟨_, _, rfl, hnm, hnc⟩ hinva.below
        generalize hgs : allGrp (bs.take k2) = gs0 at *
        have Hgs : Hid _ := hgs
        clear hgs
        go_wp2_with fail
        refine (kids_ok _ bd.nodes _ hnva hnl).mono ?_
        rintro e w2 ⟨hb2, ⟨hkf, lv, rv, rfl⟩ | ⟨hkt, gl, cl, gr, cr, rfl, _, _, _⟩⟩
        · have H : Hid (specB G bs = false) := by
            show _ = _
            rw [HA.out, allB_at bs k2 hlt2 bd Hn.out (by rw [hkf]; rfl)]; simp
          have hbb := (hinva.same hb2).below
          clear HA hkf
          go_wp2
          go_ret
          exact ⟨ret_bool H.out.symm, hbb⟩
        have Hkt : Hid _ := hkt
        clear hkt
        have d2 : w2.cell? ⟨wr.heap.size, 2, none⟩ = some (.slice nao bd.nodes.length ncp) := (hb2.cell (by simp)).trans (by simp)
        have hinv2 := hinva.same hb2
        clear hinv hinva hnva hb2 c0 c1 c2
        go_wp2
        go_loopw [4, 64] (fun s i wr => ∃ (j gg cc : Nat), j ≤ bd.nodes.length ∧ i = .int .i64 j ∧ s = .slice (some ⟨gg, 0, none⟩) (gs0 ++ grp (bd.nodes.take j)).length cc ∧ RInv w wr (.slice (some ⟨b, o, none⟩) bs.length cap) G gg cc (gs0 ++ grp (bd.nodes.take j)) ∧ Hid ((bd.nodes.take j).all nodeB = true))
          (fun _ i _ => bd.nodes.length - (intOf i).toNat)
        case atStart => exact ⟨0, gg, cc, Nat.zero_le _, rfl, by simp [grp], by simpa [grp] using hinv2, rfl⟩
        case round =>
          clear hinv2 d2
          obtain ⟨j, g3, c3, hj, rfl, rfl, hinv3, HallN⟩ := hrel
          have hlen3 : (gs0 ++ grp (bd.nodes.take j)).length ≤ 5000 := by
            have := grp_len (bd.nodes.take j)
            simp at this ⊢
            omega
          by_cases hlt3 : j < bd.nodes.length
          · obtain ⟨b2, o2, sv, nd, rfl, Hn2, hbl2, d0, d1, d2, d3, d4, hsv⟩ := hnc.elem hinv3.below hlt3
            have HGT : Hid _ := grp_take bd.nodes j hlt3 nd Hn2.out
            obtain ⟨kd, rs, mn, mx, gp⟩ := nd
            simp only at d0 d2 d3 d4 hsv HGT
            obtain ⟨sao, scp, rfl, hsm2, hsc⟩ := hsv
            have hinv3a := hinv3.alloc (.cells #[.int .i64 kd, .slice sao rs.length scp, .int .i64 mn, .int .i64 mx, .int .i64 gp] 106)
            have hsva : RangesAt lo (wr.alloc (.cells #[.int .i64 kd, .slice sao rs.length scp, .int .i64 mn, .int .i64 mx, .int .i64 gp] 106)) (.slice sao rs.length scp) rs := RangesAt.below ⟨_, _, rfl, hsm2, hsc⟩ ((Below.refl _ _).alloc (Nat.le_refl _) _)
            generalize hgs3 : gs0 ++ grp (bd.nodes.take j) = gs3 at *
            have Hgs3 : Hid _ := hgs3
            clear hgs3
            by_cases hnb : nodeB ⟨kd, rs, mn, mx, gp⟩ = false
            · have H : Hid (specB G bs = false) := by
                show _ = _
                rw [HA.out, allB_at bs k2 hlt2 bd Hn.out (by rw [nodes_false bd.nodes j hlt3 _ Hn2.out hnb]; simp)]; simp
              clear HA
              go_wp2_with (go_at_call 48; refine (nodeOK_ok _ _ _ _ _ _ _ hsva).mono ?_; rintro e w4 ⟨rfl, hb4⟩)
              go_ret
              exact ⟨ret_bool H.out.symm, (hinv3a.same hb4).below⟩
            have hnt : nodeB ⟨kd, rs, mn, mx, gp⟩ = true := by simpa using hnb
            have HallT : Hid ((bd.nodes.take (j + 1)).all nodeB = true) := nodes_take bd.nodes j hlt3 _ Hn2.out HallN.out hnt
            clear hnb
            go_wp2_with fail
            refine (nodeOK_ok _ _ _ _ _ _ _ hsva).mono ?_
            rintro e w4 ⟨rfl, hb4⟩
            have y0 : w4.cell? ⟨wr.heap.size, 0, none⟩ = some (.int .i64 kd) := (hb4.cell (by simp)).trans (by simp)
            have y4 : w4.cell? ⟨wr.heap.size, 4, none⟩ = some (.int .i64 gp) := (hb4.cell (by simp)).trans (by simp)
            have hinv4 := hinv3a.same hb4
            have hsz4 := hinv4.size
            clear hinv3 hinv3a hb4
            by_cases h55 : kd = 5
            · subst h55
              go_wp2_with (refine wpList_append_one w4 rfl (.tmp 74) (.tmp 77) 67 rfl (w.heap.size + 1) 3 i0 _ 8 Tryd.underlying67 hi hz0 hz1 hz2 rfl g3 c3 gs3.length (rowG gs3) _ rfl hinv4.row rfl rfl (by omega) (by omega) hsz4 ?_; intro g5 c5 w5 own5 grow5 at5)
              go_roundw
              case rel =>
                have he : gs0 ++ grp (bd.nodes.take (j + 1)) = gs3 ++ [gp] := by rw [HGT.out, if_pos (by trivial), ← List.append_assoc, Hgs3.out]
                exact ⟨j + 1, g5, c5, by omega, by go_num, by rw [he]; simp, by rw [he]; exact hinv4.grown grow5 own5, HallT⟩
              case measure => simp [intOf]; omega
            · have h55' : (kd == 5) = false := beq_eq_false_iff_ne.2 h55
              have H55 : Hid _ := h55
              clear h55
              go_wp2
              go_roundw
              case rel =>
                have he : gs0 ++ grp (bd.nodes.take (j + 1)) = gs3 := by rw [HGT.out, if_neg H55.out, List.append_nil, Hgs3.out]
                exact ⟨j + 1, g3, c3, by omega, by go_num, by rw [he], by rw [he]; exact hinv4, HallT⟩
              case measure => simp [intOf]; omega
          · have htk : bd.nodes.take j = bd.nodes := List.take_of_length_le (by omega)
            rw [htk] at hinv3 HallN hlen3 ⊢
            have HG2 : Hid (allGrp (bs.take (k2 + 1)) = gs0 ++ grp bd.nodes) := by show _ = _; rw [allGrp_take bs k2 hlt2 bd Hn.out, Hgs.out]
            have HB2 : Hid (allB (bs.take (k2 + 1)) = true) := allB_take bs k2 hlt2 bd Hn.out Hall.out (by rw [Hkt.out, HallN.out]; rfl)
            clear htk
            generalize gs0 ++ grp bd.nodes = gs4 at *
            go_wp2
            go_roundw
            case rel => exact ⟨k2 + 1, g3, c3, by omega, by go_num, by rw [HG2.out], by rw [HG2.out]; exact hinv3, HB2⟩
            case measure => simp [intOf]; omega
      · have htk : bs.take k2 = bs := List.take_of_length_le (by omega)
        rw [htk] at hinv Hall ⊢
        have hgl : (allGrp bs).length ≤ 5000 := by have := allGrp_len bs; rw [Hcn.out] at this; omega
        rw [Hall.out, Bool.true_and] at HA
        clear htk
        have hokk := allB_ok Hall.out
        have Hokk : Hid _ := hokk
        clear hokk
        generalize hgs : allGrp bs = gs at *
        have hx1 := hinv.box1
        have hx0 := hinv.box0
        by_cases hgn : ((gs.length : Int) == G) = false
        · have H : Hid (specB G bs = false) := by show _ = _; rw [HA.out, hgn]; simp
          have hgn2 : (((gs.length : Nat) : Int) != G) = true := by simp at hgn ⊢; exact hgn
          have hbb := hinv.below
          clear HA hgn
          go_wp2
          go_ret
          exact ⟨ret_bool H.out.symm, hbb⟩
        have hgt : ((gs.length : Int) == G) = true := by simpa using hgn
        rw [hgt, Bool.true_and] at HA
        have hgn2 : (((gs.length : Nat) : Int) != G) = false := by simp at hgt ⊢; exact hgt
        have hGe : G = gs.length := (eq_of_beq hgt).symm
        clear hgn hgt
        obtain ⟨Gn, rfl⟩ := Int.eq_ofNat_of_zero_le hG0
        have HGe : Hid _ := hGe
        clear hGe
        have hGn : Gn ≤ 500 := by omega
        go_wp2
        go_loopw [14] (fun gv wr => ∃ q : Nat, q ≤ Gn ∧ gv = .int .i64 ((q : Int) + 1) ∧ RInv w wr (.slice ao bs.length cap) (Gn : Int) gg cc gs ∧ Hid (∀ i, i < q → gs.count ((i : Int) + 1) = 1))
          (fun gv _ => Gn + 1 - (intOf gv).toNat)
        case atStart => exact ⟨0, Nat.zero_le _, rfl, hinv, fun i hi => absurd hi (Nat.not_lt_zero _)⟩
        case round =>
          clear hinv hx1 hx0
          obtain ⟨q, hq, rfl, hinv, Hcnt⟩ := hrel
          have hx1 := hinv.box1
          have hx0 := hinv.box0
          by_cases hltq : q < Gn
          · have hle : (q : Int) + 1 ≤ (Gn : Int) := by omega
            go_wp2
            go_loopw [15, 94] (fun t i wr => ∃ j : Nat, j ≤ gs.length ∧ i = .int .i64 j ∧ t = .int .i64 ((gs.take j).count ((q : Int) + 1) : Nat) ∧ RInv w wr (.slice ao bs.length cap) (Gn : Int) gg cc gs)
              (fun _ i _ => gs.length - (intOf i).toNat)
            case atStart => exact ⟨0, Nat.zero_le _, rfl, rfl, hinv⟩
            case round =>
              clear hinv hx1 hx0
              obtain ⟨j, hj, rfl, rfl, hinv⟩ := hrel
              have hcl : (gs.take j).count ((q : Int) + 1) ≤ j := by
                have := List.count_le_length (a := (q : Int) + 1) (l := gs.take j)
                simp at this
                omega
              by_cases hltj : j < gs.length
              · have y0 : wr.cell? ⟨gg, j, none⟩ = some (.int .i64 (gs.getD j 0)) := (hinv.row.cellAt j (by omega)).trans (rowG_get gs j hltj)
                have HC : Hid _ := count_take gs j hltj ((q : Int) + 1)
                generalize (gs.take j).count ((q : Int) + 1) = ct at *
                generalize gs.getD j 0 = h0 at *
                by_cases hhe : h0 = (q : Int) + 1
                · have hheb : (h0 == (q : Int) + 1) = true := beq_iff_eq.2 hhe
                  have HHE : Hid _ := hhe
                  clear hhe
                  go_wp2
                  go_roundw
                  case rel => exact ⟨j + 1, by omega, by go_num, by rw [HC.out, if_pos HHE.out]; go_num, hinv⟩
                  case measure => simp [intOf]; omega
                · have hheb : (h0 == (q : Int) + 1) = false := beq_eq_false_iff_ne.2 hhe
                  have HHE : Hid _ := hhe
                  clear hhe
                  go_wp2
                  go_roundw
                  case rel => exact ⟨j + 1, by omega, by go_num, by rw [HC.out, if_neg HHE.out, Nat.add_zero], hinv⟩
                  case measure => simp [intOf]; omega
              · have htk2 : gs.take j = gs := List.take_of_length_le (by omega)
                rw [htk2] at hcl ⊢
                clear htk2
                by_cases hone : gs.count ((q : Int) + 1) = 1
                · have HC1 : Hid (∀ i, i < q + 1 → gs.count ((i : Int) + 1) = 1) := by
                    intro i hi
                    by_cases e : i = q
                    · subst e; exact hone
                    · exact Hcnt.out i (by omega)
                  have hneb : (((gs.count ((q : Int) + 1) : Nat) : Int) != 1) = false := by rw [hone]; rfl
                  clear hone
                  generalize gs.count ((q : Int) + 1) = ct at *
                  go_wp2
                  go_roundw
                  case rel => exact ⟨q + 1, by omega, by go_num, hinv, HC1⟩
                  case measure => simp [intOf]; omega
                · have hneb : (((gs.count ((q : Int) + 1) : Nat) : Int) != 1) = true := by rw [bne_iff_ne]; omega
                  have H : Hid (specB (Gn : Int) bs = false) := by
                    show _ = _
                    have : onceB (Gn : Int) gs = false := by
                      unfold onceB
                      rw [List.all_eq_false]
                      exact ⟨q, by simpa using hltq, by simpa using hone⟩
                    rw [HA.out, this]; simp
                  have hbb := hinv.below
                  clear HA hone
                  generalize gs.count ((q : Int) + 1) = ct at *
                  go_wp2
                  go_ret
                  exact ⟨ret_bool H.out.symm, hbb⟩
          · have hgt : ¬ ((q : Int) + 1 ≤ (Gn : Int)) := by omega
            have ho : onceB (Gn : Int) gs = true := by
              unfold onceB
              rw [List.all_eq_true]
              intro i hi
              have := Hcnt.out i (by simp at hi; omega)
              rw [this]; rfl
            rw [ho, Bool.true_and] at HA
            have hrw := ruleW_bd Hokk.out bs.length (Nat.le_refl _)
            rw [List.take_length] at hrw
            have hbb := hinv.below
            have hbs := hs0.below hbb
            clear ho
            go_wp2_with fail
            refine (ruleWeight_ok (Gn : Int) _ bs _ hbs hsm Hokk.out).mono ?_
            rintro e w7 ⟨rfl, hb7⟩
            have hbb7 := below_step hbb hbb.size hb7
            go_wp2
            go_ret
            exact ⟨ret_bool (by rw [HA.out]), hbb7⟩
end Go.Proofs.YthgaeaihfbiolaaDoor
