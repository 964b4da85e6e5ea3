import Derived.Test.YtgbdlgogccgciaaGreatDoorPgI
import Derived.Test.YtgbdlgogccgciaaGreatDoorNodeSNodeTNodeUMarks
namespace Go.Proofs.YtgbdlgogccgciaaGreatDoor
open Go.RowKit
attribute [local go_sem ↓] Go.wp_at_zero Go.wp_at_succ

/- THE ORDER OF TOKENS, THE CODE's SIDE. -/
def stkV (l : List Tok) (k : Nat) : List Value := (stkN l k).map fun t => .int .i64 ((l.getD t tokZ).pos : Int)
theorem stkV_len (l : List Tok) (k : Nat) : (stkV l k).length = (stkN l k).length := by simp [stkV]
theorem stkN_le (l : List Tok) : ∀ k, (stkN l k).length ≤ k
  | 0 => Nat.le_refl _
  | k + 1 => by
    have := stkN_le l k
    show ((if _ then _ else if _ then _ else _ : List Nat)).length ≤ _
    split
    · simp; omega
    · split
      · simp; omega
      · omega
theorem stkN_one {l : List Tok} {k : Nat} (h : kAt l k = 1) : stkN l (k + 1) = stkN l k ++ [k] := by show (if _ then _ else _) = _; rw [if_pos h]
theorem stkN_two {l : List Tok} {k : Nat} (h : kAt l k = 2) : stkN l (k + 1) = (stkN l k).dropLast := by show (if _ then _ else if _ then _ else _) = _; rw [if_neg (by omega), if_pos h]
theorem stkN_oth {l : List Tok} {k : Nat} (h : kAt l k ≠ 1) (h2 : kAt l k ≠ 2) : stkN l (k + 1) = stkN l k := by show (if _ then _ else if _ then _ else _) = _; rw [if_neg h, if_neg h2]
theorem nofault {l : List Tok} {k : Nat} (h1 : ∀ j, j < k → faultF l j = 0) (h2 : faultF l k = 0) : ∀ j, j < k + 1 → faultF l j = 0 := by
  intro j hj
  by_cases e : j = k
  · subst e; exact h2
  · exact h1 j (by omega)
inductive CkA (l : List Tok) (size : Nat) : Value → Prop
  | fault {k : Nat} : k < l.length → (∀ j, j < k → faultF l j = 0) → faultF l k ≠ 0 → CkA l size (faultV (faultF l k) (l.getD k tokZ).pos)
  | op : (∀ j, j < l.length → faultF l j = 0) → opens (prevK l l.length) → CkA l size (faultV 6 size)
  | opn : (∀ j, j < l.length → faultF l j = 0) → ¬opens (prevK l l.length) → 0 < depI l l.length → CkA l size (faultV 8 (l.getD ((stkN l l.length).getD ((stkN l l.length).length - 1) 0) tokZ).pos)
  | fine : (∀ j, j < l.length → faultF l j = 0) → ¬opens (prevK l l.length) → depI l l.length = 0 → CkA l size .nilIface
def CkR (w : World) (l : List Tok) (size : Nat) (e : Ending) (w' : World) : Prop := ∃ v, e = .returned v ∧ CkA l size v ∧ Below w.heap.size w w'
theorem CkR.fault {w w' : World} {l : List Tok} {size k : Nat} {F P : Int} (hk : k < l.length) (h1 : ∀ j, j < k → faultF l j = 0) (h2 : faultF l k ≠ 0) (hF : F = faultF l k) (hP : P = ((l.getD k tokZ).pos : Int)) (hb : Below w.heap.size w w') : CkR w l size (.returned (.iface 51 (.agg #[.int .i64 F, .int .i64 P]))) w' := by
  subst hF hP; exact ⟨_, rfl, .fault hk h1 h2, hb⟩
set_option maxRecDepth 100000 in
set_option maxHeartbeats 4000000 in
theorem checkOrder_ok {G c : Nat} {l : List Tok} {sv : Nat → Value} (size : Nat) (w : World) (h : TiV w G l sv) (hl : l.length ≤ 2000) :
    Calls Tryz.prog 31 #[.slice (some ⟨G, 0, none⟩) l.length c, .int .i64 (size : Int)] w (CkR w l size) := by
  obtain ⟨i0, hi0, hz0, hz1, hz2⟩ := info_parts Tryz.infoInt
  obtain ⟨n, hnn⟩ : ∃ n, n = l.length := ⟨_, rfl⟩
  have hn2 : n ≤ 2000 := by omega
  have HN := hid hnn
  rw [← hnn]
  clear hnn hl
  go_enter Tryz.func31, Tryz.ntmps31
  go_wp2
  go_loopw [5, 6, 13] (fun ov gv iv wr => ∃ k : Nat, k ≤ n ∧ gv = .int .i64 ((numN l k : Nat) : Int) ∧ iv = .int .i64 (k : Int) ∧ Below w.heap.size w wr ∧ Hid (wr.ownsRow w.heap.size 3 1 ov (stkN l k).length (stkV l k)) ∧ Hid (∀ j, j < k → faultF l j = 0)) (fun _ _ iv _ => n - (intOf iv).toNat)
  case atStart => exact ⟨0, by omega, rfl, rfl, (Below.refl _ _).alloc (Nat.le_refl _) _, ownsRow_newZ w _ 1 _ _ (Nat.le_refl _) rfl, fun j hj => absurd hj (by omega)⟩
  case round =>
    obtain ⟨k, hk, rfl, rfl, hb, HO, HF⟩ := hrel
    have hs := hb.size
    have hI := stkI l k HF.out
    have hsl := stkN_le l k
    obtain ⟨D, hD⟩ : ∃ D, D = (stkN l k).length := ⟨_, rfl⟩
    have hvf : ∃ ao cp, u5 = .slice ao D cp := by
      rcases HO.out.2 with ⟨e, h0⟩ | ⟨g, cap, _, e, _⟩
      · exact ⟨none, 0, by rw [e, hD, h0]⟩
      · exact ⟨_, _, by rw [e, hD]⟩
    obtain ⟨ao, cp0, hv0⟩ := hvf
    subst hv0
    have hdep : depI l k = (D : Int) := by rw [hI.len, hD]
    have hD2 : D ≤ 2000 := by omega
    have hD3 : D ≤ k := by omega
    have HD := hid hD
    have HOX : Hid (wr.ownsRow w.heap.size 3 1 (.slice ao D cp0) D (stkV l k)) := by rw [hD]; rw [hD] at HO; exact HO.out
    have Hdep := hid hdep
    have hnum := tnum_le l k
    clear hD hI hsl HO hdep
    by_cases hlt : k < n
    · have hkI : (k : Int) < (n : Int) := by omega
      have hkl : k < l.length := by have := HN.out; omega
      have hV := h.below hb
      obtain ⟨sr, sn, sc, hsv⟩ := h.one k hkl
      have k0 := hV.kindC hkl
      have k1 := hV.posC hkl
      have k2 := hV.setC hkl
      have k3 := hV.minC hkl
      have k4 := hV.maxC hkl
      rw [hsv] at k2
      obtain ⟨K, hK⟩ : ∃ K, K = kAt l k := ⟨_, rfl⟩
      have hK7 : K < 7 := by rw [hK]; exact h.kin k hkl
      have hnu : numN l (k + 1) = numN l k + (if K = 1 then 1 else 0) := by rw [hK]; rfl
      rw [← hK] at k0
      generalize hPP : ((l.getD k tokZ).pos : Int) = PP at k1
      generalize (l.getD k tokZ).mn = MN at k3
      generalize (l.getD k tokZ).mx = MX at k4
      have HK := hid hK
      have HPP := hid hPP
      obtain ⟨W1, hW1⟩ : ∃ W1, W1 = wr.alloc (.cells #[.int .i64 (K : Int), .int .i64 PP, .slice sr sn sc, .int .i64 MN, .int .i64 MX] 105) := ⟨_, rfl⟩
      have hb1 : Below wr.heap.size wr W1 := by rw [hW1]; exact (Below.refl _ _).alloc (Nat.le_refl _) _
      have hC := orderFault_ok (c := c) (g := numN l (k + 1)) W1 (hV.below hb1) hkl (by have := HN.out; omega) Hdep.out rfl
      rw [← HN.out] at hC
      clear hK hPP hV hsv
      have hPb : W1.heap[wr.heap.size]? = some (.cells #[.int .i64 (K : Int), .int .i64 PP, .slice sr sn sc, .int .i64 MN, .int .i64 MX] 105 (0, 0)) := by rw [hW1]; exact heap_alloc_new _ _
      obtain ⟨z0, z1, z2, z3, z4⟩ := row_five hPb
      have hbb := below_step hb hs hb1
      have hs1 := hb1.size
      have HOY : Hid (W1.ownsRow w.heap.size 3 1 (.slice ao D cp0) D (stkV l k)) := ownsRow_below HOX.out hb1
      rw [hnu] at hC
      obtain ⟨F, hFk⟩ : ∃ F, F = faultF l k := ⟨_, rfl⟩
      rw [← hFk] at hC
      have HFk := hid hFk.symm
      have Hnu := hid hnu
      clear hFk hnu hPb
      obtain ⟨NK, hNK⟩ : ∃ NK, NK = numN l k := ⟨_, rfl⟩
      rw [← hNK] at hC hnum ⊢
      have HNK := hid hNK
      clear hNK
      have hNK2 : NK ≤ 2000 := by omega
      by_cases e1 : K = 1
      · rw [if_pos e1] at hC
        have hcast : ((NK + 1 : Nat) : Int) = (NK : Int) + 1 := by omega
        rw [hcast] at hC
        have kb : ((K : Int) == 1) = true := by simp; omega
        have E1 := hid e1
        clear e1 hcast
        by_cases hf : F = 0
        · subst hf
          go_wp2_with fail
          rw [← hW1]
          refine hC.mono ?_
          rintro e w3 ⟨rfl, hw⟩
          rw [hw]
          clear hw w3 hC hW1
          go_wp2_with (at_builtin; refine wpList_append_szW rfl (.tmp 40) (.tmp 43) 100 rfl W1 #[.int .i64 PP] 3 rfl W1.heap.size rfl w.heap.size i0 _ 1 8 Tryz.underlying100 hi0 hz0 hz1 hz2 rfl (by omega) _ D _ rfl HOY.out rfl rfl (by simp [Value.oneCell']) (by omega) (by omega) (by omega) ?_; intro g' cap' w4 own4 grow4 at4)
          have hst := stkN_one (l := l) (k := k) (by rw [← HK.out]; exact E1.out)
          have HP : Hid (w4.ownsRow w.heap.size 3 1 (.slice (some ⟨g', 0, none⟩) (D + 1) cap') (stkN l (k + 1)).length (stkV l (k + 1))) := by
            show World.ownsRow _ _ _ _ _ _ _
            have e9 : stkV l (k + 1) = stkV l k ++ [.int .i64 PP] := by unfold stkV; rw [hst, List.map_append, ← HPP.out]; rfl
            rw [e9, hst, List.length_append, ← HD.out]
            exact own4
          have hb4 : Below w.heap.size w w4 := hbb.grown grow4 (by omega) (fun k hk => (ownsRow_blk HOY.out hk).1)
          clear own4 grow4 at4 hst
          go_wp2
          go_roundw
          case rel => exact ⟨k + 1, by omega, by rw [Hnu.out, if_pos E1.out, ← HNK.out]; go_num, by go_num, hb4, HP, nofault HF.out HFk.out⟩
          case measure => simp [intOf]; omega
        · have hfb : (F != 0) = true := by simpa using hf
          go_wp2_with fail
          rw [← hW1]
          refine hC.mono ?_
          rintro e w3 ⟨rfl, hw⟩
          rw [hw]
          clear hw w3 hC hW1
          go_wp2
          go_ret
          exact .fault hkl HF.out (by rw [HFk.out]; exact hf) HFk.out.symm HPP.out.symm hbb
      rw [if_neg e1, Nat.add_zero] at hC
      have kb : ((K : Int) == 1) = false := by simp; omega
      have HnuB : Hid (numN l (k + 1) = NK) := by show _ = _; rw [Hnu.out, if_neg e1, HNK.out]; rfl
      have E1 := hid e1
      clear e1
      by_cases hf : F = 0
      case neg =>
        have hfb : (F != 0) = true := by simpa using hf
        go_wp2_with fail
        rw [← hW1]
        refine hC.mono ?_
        rintro e w3 ⟨rfl, hw⟩
        rw [hw]
        clear hw w3 hC hW1
        go_wp2
        go_ret
        exact .fault hkl HF.out (by rw [HFk.out]; exact hf) HFk.out.symm HPP.out.symm hbb
      subst hf
      by_cases e2 : K = 2
      · have kb2 : ((K : Int) == 2) = true := by simp; omega
        have hk2 : kAt l k = 2 := by rw [← HK.out]; exact e2
        have hd0 : D ≠ 0 := by
          intro e
          have h9 := HFk.out
          unfold faultF at h9
          rw [if_neg (by omega), if_pos hk2, if_pos (by rw [Hdep.out, e]; rfl)] at h9
          omega
        obtain ⟨m, rfl⟩ : ∃ m, D = m + 1 := ⟨D - 1, by omega⟩
        obtain ⟨g, cap, hv⟩ := own_shape HOY.out
        have hao : ao = some ⟨g, 0, none⟩ ∧ cp0 = cap := by cases hv; exact ⟨rfl, rfl⟩
        obtain ⟨rfl, rfl⟩ := hao
        have hcb := (own_form HOY.out)
        have hcm := maxLen_num hcb.2.2.2
        have hst := stkN_two hk2
        have HP : Hid (W1.ownsRow w.heap.size 3 1 (.slice (some ⟨g, 0, none⟩) m cp0) (stkN l (k + 1)).length (stkV l (k + 1))) := by
          show World.ownsRow _ _ _ _ _ _ _
          have hlen : (stkN l (k + 1)).length = m := by rw [hst, List.length_dropLast, ← HD.out]; omega
          have e9 : stkV l (k + 1) = (stkV l k).take m := by
            unfold stkV
            rw [hst, List.dropLast_eq_take, ← List.map_take, ← HD.out]
            rfl
          rw [hlen, e9]
          exact ownsRow_take HOY.out (by omega)
        have i5 : (0 : Int) ≤ ((m + 1 : Nat) : Int) - 1 := by omega
        have i6 : (((m + 1 : Nat) : Int) - 1).toNat = m := by omega
        have i7 : ((m + 1 : Nat) : Int) - 1 ≤ (cp0 : Int) := by have := hcb.2.2.1; omega
        have i8 : (cp0 : Int) ≤ 9223372036854775807 := by omega
        clear hst hk2 hv e2 hd0 hcb
        go_wp2_with fail
        rw [← hW1]
        refine hC.mono ?_
        rintro e w3 ⟨rfl, hw⟩
        rw [hw]
        clear hw w3 hC hW1
        go_wp2
        go_roundw
        case rel => exact ⟨k + 1, by omega, by rw [HnuB.out], by go_num, hbb, HP, nofault HF.out HFk.out⟩
        case measure => simp [intOf]; omega
      · have kb2 : ((K : Int) == 2) = false := by simp; omega
        have hst := stkN_oth (l := l) (k := k) (by rw [← HK.out]; exact E1.out) (by rw [← HK.out]; exact e2)
        have HP : Hid (W1.ownsRow w.heap.size 3 1 (.slice ao D cp0) (stkN l (k + 1)).length (stkV l (k + 1))) := by
          show World.ownsRow _ _ _ _ _ _ _
          unfold stkV
          rw [hst, ← HD.out]
          exact HOY.out
        clear hst e2
        go_wp2_with fail
        rw [← hW1]
        refine hC.mono ?_
        rintro e w3 ⟨rfl, hw⟩
        rw [hw]
        clear hw w3 hC hW1
        go_wp2
        go_roundw
        case rel => exact ⟨k + 1, by omega, by rw [HnuB.out], by go_num, hbb, HP, nofault HF.out HFk.out⟩
        case measure => simp [intOf]; omega
    · have hke : k = n := by omega
      subst hke
      have hC := atOpening_ok (c := c) wr (h.below hb) (k := l.length) (Nat.le_refl _) (by have := HN.out; omega)
      rw [← HN.out] at hC
      have HFn : Hid (∀ j, j < l.length → faultF l j = 0) := by rw [← HN.out]; exact HF
      by_cases ho : opens (prevK l k)
      · have hod : decide (opens (prevK l k)) = true := decide_eq_true ho
        rw [hod] at hC
        have HOp : Hid (opens (prevK l l.length)) := by rw [← HN.out]; exact ho
        clear ho hod
        go_wp2_with fail
        refine hC.mono ?_
        rintro e w3 ⟨rfl, hw⟩
        rw [hw]
        clear hw w3 hC
        go_wp2
        go_ret
        exact ⟨_, rfl, .op HFn.out HOp.out, hb⟩
      · have hod : decide (opens (prevK l k)) = false := decide_eq_false ho
        rw [hod] at hC
        have HOp : Hid (¬opens (prevK l l.length)) := by rw [← HN.out]; exact ho
        have HdN : Hid (depI l l.length = (D : Int)) := by rw [← HN.out]; exact Hdep
        clear ho hod
        rcases Nat.eq_zero_or_pos D with hz | hz
        · subst hz
          go_wp2_with fail
          refine hC.mono ?_
          rintro e w3 ⟨rfl, hw⟩
          rw [hw]
          clear hw w3 hC
          go_wp2
          go_ret
          exact ⟨_, rfl, .fine HFn.out HOp.out HdN.out, hb⟩
        · obtain ⟨m, rfl⟩ : ∃ m, D = m + 1 := ⟨D - 1, by omega⟩
          obtain ⟨g, cap, hv⟩ := own_shape HOX.out
          have hao : ao = some ⟨g, 0, none⟩ ∧ cp0 = cap := by cases hv; exact ⟨rfl, rfl⟩
          obtain ⟨rfl, rfl⟩ := hao
          obtain ⟨PP, hPP⟩ : ∃ PP : Int, PP = ((l.getD ((stkN l k).getD ((stkN l k).length - 1) 0) tokZ).pos : Int) := ⟨_, rfl⟩
          have cz : wr.cell? ⟨g, m, none⟩ = some (.int .i64 PP) := by
            rw [HOX.out.cellAt m (by omega), hPP, ← HD.out]
            unfold stkV
            rw [List.getElem?_map, List.getD_eq_getElem?_getD (l := stkN l k), show m + 1 - 1 = m by omega, List.getElem?_eq_getElem (by have := HD.out; omega)]
            rfl
          have HPP := hid hPP
          have i5 : (0 : Int) ≤ ((m + 1 : Nat) : Int) - 1 := by omega
          have i6 : (((m + 1 : Nat) : Int) - 1).toNat = m := by omega
          have i7 : ((m + 1 : Nat) : Int) - 1 < ((m + 1 : Nat) : Int) := by omega
          have i8 : (0 : Int) < ((m + 1 : Nat) : Int) := by omega
          clear hPP hv
          go_wp2_with fail
          refine hC.mono ?_
          rintro e w3 ⟨rfl, hw⟩
          rw [hw]
          clear hw w3 hC
          go_wp2
          go_ret
          refine ⟨_, rfl, ?_, hb⟩
          rw [HPP.out, HN.out]
          exact .opn HFn.out HOp.out (by rw [HdN.out]; omega)
end Go.Proofs.YtgbdlgogccgciaaGreatDoor
namespace Go.Proofs.YtgbdlgogccgciaaGreatDoor
open Go.RowKit
attribute [local go_sem ↓] Go.wp_at_zero Go.wp_at_succ

/- PREFIXES. -/
theorem take_two {l : List UInt8} {c d : UInt8} : (l.take 2 == [c, d]) = decide (atL l 0 = (c.toNat : Int) ∧ atL l 1 = (d.toNat : Int)) := by
  match l with
  | [] => simp [atL]
  | [x] => simp [atL]
  | x :: y :: r =>
    have h1 : atL (x :: y :: r) 0 = (x.toNat : Int) := rfl
    have h2 : atL (x :: y :: r) 1 = (y.toNat : Int) := rfl
    rw [h1, h2]
    show ([x, y] == [c, d]) = _
    by_cases e1 : x = c
    · by_cases e2 : y = d
      · subst e1 e2; simp
      · have : ¬(y.toNat : Int) = (d.toNat : Int) := fun h => e2 (UInt8.toNat_inj.1 (by omega))
        simp [e2, this]
    · have : ¬(x.toNat : Int) = (c.toNat : Int) := fun h => e1 (UInt8.toNat_inj.1 (by omega))
      simp [e1, this]
theorem take_one {l : List UInt8} {c : UInt8} : (l.take 1 == [c]) = decide (atL l 0 = (c.toNat : Int)) := by
  match l with
  | [] => simp [atL]
  | x :: r =>
    have h1 : atL (x :: r) 0 = (x.toNat : Int) := rfl
    rw [h1]
    show ([x] == [c]) = _
    by_cases e1 : x = c
    · subst e1; simp
    · have : ¬(x.toNat : Int) = (c.toNat : Int) := fun h => e1 (UInt8.toNat_inj.1 (by omega))
      simp [e1, this]
set_option maxRecDepth 100000 in
set_option maxHeartbeats 1000000 in
theorem hasPrefix2_ok (t : ByteArray) (c d : UInt8) (w : World) (hs : t.size ≤ 2000) :
    Calls Tryz.prog 71 #[.string t, .string ⟨#[c, d]⟩] w fun e w' => e = .returned (.bool (decide (atL t.data.toList 0 = (c.toNat : Int) ∧ atL t.data.toList 1 = (d.toNat : Int)))) ∧ w' = w := by
  rw [← take_two]
  have hlen : t.data.toList.length = t.size := Array.length_toList
  by_cases h2 : t.size < 2
  · have hb : (t.data.toList.take 2 == [c, d]) = false := by
      rw [take_two]
      have : atL t.data.toList 1 = -1 := atL_none (by omega)
      simp [this]
    rw [hb]
    have h3 : ¬(2 : Int) ≤ (t.size : Int) := by omega
    clear hlen hb
    go_enter Tryz.func71, Tryz.ntmps71
    go_wp2
    go_ret
    exact ⟨rfl, rfl⟩
  · have h3 : (2 : Int) ≤ (t.size : Int) := by omega
    obtain ⟨Q, hQ⟩ : ∃ Q, Q = t.extract 0 2 := ⟨_, rfl⟩
    have hQl : Q.data.toList = t.data.toList.take 2 := by rw [hQ, ext_list]; simp
    obtain ⟨b, hb⟩ : ∃ b, b = (t.data.toList.take 2 == [c, d]) := ⟨_, rfl⟩
    have q1 : (Q.toList == [c, d]) = b := by rw [hb, toList_eq, hQl]
    rw [← hb]
    have HQ := hid hQ.symm
    clear hlen hb hQl hQ
    go_enter Tryz.func71, Tryz.ntmps71
    go_wp2
    go_ret
    exact ⟨ret_bool (by rw [HQ.out]; exact q1), rfl⟩
set_option maxRecDepth 100000 in
set_option maxHeartbeats 1000000 in
theorem hasPrefix1_ok (t : ByteArray) (c : UInt8) (w : World) (hs : t.size ≤ 2000) :
    Calls Tryz.prog 71 #[.string t, .string ⟨#[c]⟩] w fun e w' => e = .returned (.bool (decide (atL t.data.toList 0 = (c.toNat : Int)))) ∧ w' = w := by
  rw [← take_one]
  have hlen : t.data.toList.length = t.size := Array.length_toList
  by_cases h2 : t.size < 1
  · have hb : (t.data.toList.take 1 == [c]) = false := by
      rw [take_one]
      have : atL t.data.toList 0 = -1 := atL_none (by omega)
      simp [this]
    rw [hb]
    have h3 : ¬(1 : Int) ≤ (t.size : Int) := by omega
    clear hlen hb
    go_enter Tryz.func71, Tryz.ntmps71
    go_wp2
    go_ret
    exact ⟨rfl, rfl⟩
  · have h3 : (1 : Int) ≤ (t.size : Int) := by omega
    obtain ⟨Q, hQ⟩ : ∃ Q, Q = t.extract 0 1 := ⟨_, rfl⟩
    have hQl : Q.data.toList = t.data.toList.take 1 := by rw [hQ, ext_list]; simp
    obtain ⟨b, hb⟩ : ∃ b, b = (t.data.toList.take 1 == [c]) := ⟨_, rfl⟩
    have q1 : (Q.toList == [c]) = b := by rw [hb, toList_eq, hQl]
    rw [← hb]
    have HQ := hid hQ.symm
    clear hlen hb hQl hQ
    go_enter Tryz.func71, Tryz.ntmps71
    go_wp2
    go_ret
    exact ⟨ret_bool (by rw [HQ.out]; exact q1), rfl⟩
def elemB (l : List UInt8) : Bool := decide (atL l 0 = 91 ∧ (atL l 1 = 46 ∨ atL l 1 = 61 ∨ atL l 1 = 58))
set_option maxRecDepth 100000 in
set_option maxHeartbeats 1000000 in
theorem namesElement_ok (t : ByteArray) (w : World) (hs : t.size ≤ 2000) :
    Calls Tryz.prog 86 #[.string t] w fun e w' => e = .returned (.bool (elemB t.data.toList)) ∧ w' = w := by
  have h1 : Calls Tryz.prog 71 #[.string t, .string ⟨#[91, 46]⟩] w fun e w' => e = .returned (.bool (decide (atL t.data.toList 0 = 91 ∧ atL t.data.toList 1 = 46))) ∧ w' = w := hasPrefix2_ok t 91 46 w hs
  have h2 : Calls Tryz.prog 71 #[.string t, .string ⟨#[91, 61]⟩] w fun e w' => e = .returned (.bool (decide (atL t.data.toList 0 = 91 ∧ atL t.data.toList 1 = 61))) ∧ w' = w := hasPrefix2_ok t 91 61 w hs
  have h3 : Calls Tryz.prog 71 #[.string t, .string ⟨#[91, 58]⟩] w fun e w' => e = .returned (.bool (decide (atL t.data.toList 0 = 91 ∧ atL t.data.toList 1 = 58))) ∧ w' = w := hasPrefix2_ok t 91 58 w hs
  have he : elemB t.data.toList = (decide (atL t.data.toList 0 = 91 ∧ atL t.data.toList 1 = 46) || decide (atL t.data.toList 0 = 91 ∧ atL t.data.toList 1 = 61) || decide (atL t.data.toList 0 = 91 ∧ atL t.data.toList 1 = 58)) := by
    unfold elemB
    rw [← Bool.decide_or, ← Bool.decide_or, decide_eq_decide]
    omega
  rw [he]
  clear he
  generalize decide (atL t.data.toList 0 = 91 ∧ atL t.data.toList 1 = 46) = b1 at *
  generalize decide (atL t.data.toList 0 = 91 ∧ atL t.data.toList 1 = 61) = b2 at *
  generalize decide (atL t.data.toList 0 = 91 ∧ atL t.data.toList 1 = 58) = b3 at *
  go_enter Tryz.func86, Tryz.ntmps86
  go_wp2_with fail
  refine h1.mono ?_
  rintro e w' ⟨rfl, hw⟩
  rw [hw]
  clear hw w' h1
  cases b1 with
  | true =>
    go_wp2
    go_ret
    exact ⟨rfl, rfl⟩
  | false =>
    go_wp2_with fail
    refine h2.mono ?_
    rintro e w' ⟨rfl, hw⟩
    rw [hw]
    clear hw w' h2
    cases b2 with
    | true =>
      go_wp2
      go_ret
      exact ⟨rfl, rfl⟩
    | false =>
      go_wp2_with fail
      refine h3.mono ?_
      rintro e w' ⟨rfl, hw⟩
      rw [hw]
      clear hw w' h3
      go_wp2
      go_ret
      exact ⟨ret_bool (by simp), rfl⟩
end Go.Proofs.YtgbdlgogccgciaaGreatDoor
namespace Go.Proofs.YtgbdlgogccgciaaGreatDoor
open Go.RowKit

/- MARKS HELD AGAINST MARKS. -/
theorem marks_part (f : Nat → Bool) {i : Nat} (hi : i < 256) (w : World) : (part 4 (marksArr f) i).run Tryz.prog w = .ok (.bool (f i)) w := by
  have a3 := Tryz.isAgg4
  have z3 := Tryz.sizeOf4
  have hm := marksArr_get f i hi
  simp [part, go_sem, hm]
def eqM (f g : Nat → Bool) : Bool := (List.range' 0 256).all fun i => f i == g i
theorem eqM_true {f g : Nat → Bool} (h : ∀ c, c < 256 → f c = g c) : eqM f g = true := by
  unfold eqM
  rw [List.all_eq_true]
  intro i hi
  have : i < 256 := by have := List.mem_range'.1 hi; omega
  rw [h i this]
  simp
theorem eqM_false {f g : Nat → Bool} {c : Nat} (hc : c < 256) (h : f c ≠ g c) : eqM f g = false := by
  unfold eqM
  rw [List.all_eq_false]
  exact ⟨c, List.mem_range'.2 ⟨c, by omega, by omega⟩, by simpa using h⟩
set_option maxRecDepth 100000 in
theorem marks_equal (f g : Nat → Bool) (w : World) : (Op.equalIn 10000 141 (.agg (marksArr f)) (.agg (marksArr g))).run Tryz.prog w = .ok (eqM f g) w := by
  have u3 := Tryz.underlying4
  have z3 := Tryz.sizeOf4
  have key : ∀ i, i < 256 → (Op.equalIn 9999 4 (.bool (f i)) (.bool (g i))).run Tryz.prog w = .ok (f i == g i) w := fun i _ => run_equalIn_bool w 9998 _ _ _ u3
  rw [show (10000 : Nat) = 9999 + 1 from rfl, Op.equalIn]
  simp only [Sem.run_bind, run_underlying Tryz.underlying141, Result.andThen_ok]
  simp only [Std.Legacy.Range.forIn_eq_forIn_range', Std.Legacy.Range.size, Nat.sub_zero, Nat.add_sub_cancel, Nat.div_one]
  rw [z3]
  simp only [Result.andThen_ok, Nat.mul_one]
  unfold eqM
  have hxs : ∀ i ∈ List.range' 0 256, i < 256 := fun i hi => by have := List.mem_range'.1 hi; omega
  generalize List.range' 0 256 = xs at *
  induction xs with
  | nil => simp
  | cons i xs ih =>
    have hi := hxs i (by simp)
    have hr := ih fun j hj => hxs j (by simp [hj])
    simp only [List.forIn_cons, Sem.run_bind, marks_part _ hi, key i hi, Result.andThen_ok, Sem.run_ite, List.all_cons]
    cases hb : (f i == g i) with
    | false => simp
    | true =>
      simp only [Bool.not_true, Bool.false_eq_true, if_false, Sem.run_pure, Result.andThen_ok, Bool.true_and]
      exact hr
theorem Tryz.eqlMarks (f g : Nat → Bool) (w : World) : (binOp .eql 141 (.agg (marksArr f)) (.agg (marksArr g))).run Tryz.prog w = .ok (.bool (eqM f g)) w := by
  rw [run_eql_struct, marks_equal]; rfl
theorem Tryz.neqMarks (f g : Nat → Bool) (w : World) : (binOp .neq 141 (.agg (marksArr f)) (.agg (marksArr g))).run Tryz.prog w = .ok (.bool (!eqM f g)) w := by
  rw [run_neq_struct, marks_equal]; rfl
end Go.Proofs.YtgbdlgogccgciaaGreatDoor
