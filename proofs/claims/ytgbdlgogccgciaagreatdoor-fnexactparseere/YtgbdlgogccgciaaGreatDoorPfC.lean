import Derived.Test.YtgbdlgogccgciaaGreatDoorPfAPfB
import Derived.Deep.Cut
import Derived.Deep.CutRange
namespace Go.Proofs.YtgbdlgogccgciaaGreatDoor
open Go.RowKit
attribute [local go_sem ↓] Go.wp_at_zero Go.wp_at_succ

/- spec.ParseERE: a rule. -/
theorem dec_iff {p : Prop} [Decidable p] {b : Bool} (h : p ↔ b = true) : decide p = b := by
  by_cases hp : p
  · rw [h.1 hp]; exact decide_eq_true hp
  · cases hb : b with
    | false => exact decide_eq_false hp
    | true => exact absurd (h.2 hb) hp
def ParW (w : World) (bs : List BranchD) (g : Nat) (e : Ending) (w' : World) : Prop := (2000 < ruleW bs → ParA w .zero 10 0 e w') ∧ (¬2000 < ruleW bs → ParA w ⟨bs, (g : Int)⟩ 0 0 e w')
set_option maxRecDepth 100000 in
set_option maxHeartbeats 8000000 in
theorem specParse_rule (t : ByteArray) (w : World) (hs : t.size ≤ 2000) {l : List Tok} {bs : List BranchD} {g : Nat} (hl : lexF t.data.toList 0 [] = (l, 0, 0)) (hall : ∀ j, j < l.length → faultF l j = 0) (ho : ¬opens (prevK l l.length)) (hd : depI l l.length = 0) (hR : Rl 0 l bs g) :
    Calls Tryz.prog 4 #[.string t] w (ParW w bs g) := by
  obtain ⟨ts, hBj, htsn, htsa, hb0, hbl, hgn, hat⟩ := rl_bj hR
  have h0 : 0 < l.length := by omega
  have HBj := hid hBj
  have Htsn := hid htsn
  have Htsa := hid htsa
  have Hgn := hid hgn
  have Hat := hid hat
  have HR := hid hR
  have hbl0 : bs.length ≤ l.length := hbl
  clear hBj htsn htsa hgn hat hR hbl
  have h1 : ¬(2000 : Int) < (t.size : Int) := by omega
  have hk := lexF_ok t.data.toList t.data.toList.length 0 [] (by omega) (by simp) (by simp) (by simp)
  rw [hl] at hk
  obtain ⟨hkk, hkl, _⟩ := hk
  have hsz : t.data.toList.length = t.size := Array.length_toList
  have hkl0 : l.length ≤ t.data.toList.length := hkl
  have hkk : ∀ x ∈ l, TokB x ∧ x.kind < 7 := hkk
  have hkl : l.length ≤ 2000 := by omega
  clear hsz
  go_enter Tryz.func4, Tryz.ntmps4
  go_wp2_with fail
  obtain ⟨W1, hW1⟩ : ∃ W1, W1 = w.alloc (.cells #[.slice none 0 0, .int .i64 0] 24) := ⟨_, rfl⟩
  have hP : W1.heap[w.heap.size]? = some (.cells #[.slice none 0 0, .int .i64 0] 24 (0, 0)) := by rw [hW1]; exact heap_alloc_new _ _
  have hbW : Below w.heap.size w W1 := by rw [hW1]; exact (Below.refl _ _).alloc (Nat.le_refl _) _
  rw [← hW1]
  clear hW1
  refine (l1Lex_ok t W1 (by omega)).mono ?_
  rw [hl]
  rintro e w2 ⟨hb2, sv, q, rfl, hS⟩
  have hP2 := row_below hP hb2
  have hbx := below_step hbW hbW.size hb2
  have hS : TkS W1.heap.size w2 sv l q := hS
  have HS := hid hS
  have Hkk := hid hkk
  have hPW := hP
  clear hP hS hkk
  have hG := HS.out.to Hkk.out h0
  obtain ⟨G, cc, rfl, hV, hc1, hc2⟩ := hG
  have hGw : w.heap.size ≠ G := by have h1 : W1.heap.size ≤ G := (ownsRow_blk HS.out.row rfl).1; have := row_lt hPW; omega
  have HV := hid hV
  obtain ⟨n, hn⟩ : ∃ n, n = l.length := ⟨_, rfl⟩
  have hn2 : n ≤ 2000 := by omega
  have hn0 : 0 < n := by omega
  have hcn : (n : Int) ≤ (cc : Int) := by omega
  have hc3 : (cc : Int) ≤ 9223372036854775807 := by omega
  have HN := hid hn
  rw [← hn]
  obtain ⟨r0, r1, f0, f1⟩ := row_two hP2
  clear hV hn hkl
  go_wp2
  go_loop [35] (fun i => ∃ j : Nat, j ≤ n ∧ i = .int .i64 (j : Int)) (fun i => n - (intOf i).toNat)
  case atStart => exact ⟨0, by omega, rfl⟩
  case round =>
    obtain ⟨j, hj, rfl⟩ := hrel
    by_cases hlt : j < n
    · have hjn : (j : Int) < (n : Int) := by omega
      have hC := l1Fault_ok (c := cc) w2 HV.out (k := j) (by have := HN.out; omega) (by have := HN.out; omega)
      rw [← HN.out, hall j (by have := HN.out; omega)] at hC
      go_wp2_with fail
      refine hC.mono ?_
      rintro e w3 ⟨rfl, hw⟩
      rw [hw]
      clear hw w3 hC
      go_wp2
      go_round
      case rel => exact ⟨j + 1, by omega, by go_num⟩
      case measure => simp [intOf]; omega
    have hjn : j = n := by omega
    subst hjn
    have hK7 : Kinds l := fun k hk => HV.out.kin k hk
    have hP8 := prevK_lt hK7 (k := l.length) (Nat.le_refl _)
    have hC := l1Kind_prev (c := cc) w2 HV.out (k := l.length) (ck := (j : Int) - 1) (Nat.le_refl _) (by have := HN.out; omega)
    rw [← HN.out] at hC hP8
    have hP7 : prevK l j ≠ 7 := by unfold prevK; rw [if_neg (by omega)]; have := hK7 (j - 1) (by have := HN.out; omega); omega
    have p1 : (pB (prevK l j) == 40) = decide (prevK l j = 1) := pB_eq hP8 1 (by omega)
    have p3 : (pB (prevK l j) == 124) = decide (prevK l j = 3) := pB_eq hP8 3 (by omega)
    have p5 : (pB (prevK l j) == 94) = decide (prevK l j = 5) := pB_eq hP8 5 (by omega)
    have P1 := hid p1
    have P3 := hid p3
    have P5 := hid p5
    rw [← HN.out] at ho
    have HO := hid ho
    have HP7 := hid hP7
    have hj0 : ((j : Int) == 0) = false := by simp; omega
    clear p1 p3 p5 ho hP7 hK7 hP8 hj hlt
    generalize prevK l j = PK at *
    generalize pB PK = PB at *
    go_wp2_with fail
    refine hC.mono ?_
    rintro e w3 ⟨rfl, hw⟩
    rw [hw]
    clear hw w3 hC
    have q1 : (PB == 40) = false := by rw [P1.out]; have := HO.out; simp [opens] at this; simp; omega
    have q3 : (PB == 124) = false := by rw [P3.out]; have := HO.out; simp [opens] at this; simp; omega
    have q5 : (PB == 94) = false := by rw [P5.out]; have := HO.out; simp [opens] at this; simp; omega
    have hD := l1Depth_ok (c := cc) w2 HV.out (k := l.length) (ck := (j : Int)) (Nat.le_refl _) (by have := HN.out; omega) (by have := HN.out; omega)
    rw [← HN.out] at hD
    rw [← HN.out] at hd
    rw [hd] at hD
    clear hl hd hall
    go_wp2_with fail
    refine hD.mono ?_
    rintro e w3 ⟨rfl, hw⟩
    rw [hw]
    clear hw w3 hD
    have hsb := hbx.size
    obtain ⟨B2, hB2⟩ : ∃ B2, B2 = w2.heap.size := ⟨_, rfl⟩
    go_wp2
    go_loopw [105] (fun i wr => ∃ k : Nat, k ≤ j ∧ i = .int .i64 (k : Int) ∧ Below w2.heap.size w2 wr ∧ Hid (wr.heap[w2.heap.size]? = some (.cells #[.slice none 0 0, .int .i64 ((numN l k : Nat) : Int)] 24 (0, 0)))) (fun i _ => j - (intOf i).toNat)
    case atStart => exact ⟨0, by omega, rfl, (Below.refl _ _).alloc (Nat.le_refl _) _, heap_alloc_new _ _⟩
    case round =>
      obtain ⟨k, hk, rfl, hbr, HB⟩ := hrel
      have hsr := hbr.size
      have hrl := row_lt HB.out
      by_cases hlt : k < j
      · have hkj : (k : Int) < (j : Int) := by omega
        have hkl : k < l.length := by have := HN.out; omega
        have hVr := HV.out.below hbr
        have hnk := tnum_le l k
        obtain ⟨sr, sn, sc, hsv⟩ : ∃ r n c, setV (l.getD k tokZ) (q k) = .slice r n c := by unfold setV; split <;> exact ⟨_, _, _, rfl⟩
        have k0 := hVr.kindC hkl
        have k1 := hVr.posC hkl
        have k2 := hVr.setC hkl
        have k3 := hVr.minC hkl
        have k4 := hVr.maxC hkl
        rw [hsv] at k2
        rw [Nat.zero_add] at k0 k1 k2 k3 k4
        have e1 : (kB (kAt l k) == 40) = decide (kAt l k = 1) := kB_eq (HV.out.kin k hkl) 1 (by omega)
        have hnum : numN l (k + 1) = numN l k + (if kAt l k = 1 then 1 else 0) := rfl
        have HNu := hid hnum
        clear hVr hsv hnum
        generalize hKA : kAt l k = KA at *
        generalize kB KA = KB at *
        generalize ((l.getD k tokZ).pos : Int) = PP at *
        generalize mS 0 l k = MM at *
        generalize (l.getD k tokZ).mx = MX at *
        generalize hNK : numN l k = NK at *
        have hnb : wr.heap.size ≠ w2.heap.size := by omega
        have b1 := (row_two HB.out).2.1
        have g1 := (row_two HB.out).2.2.2
        have hWb : ∀ C : Array Value, (wr.alloc (.cells C 36)).heap[w2.heap.size]? = some (.cells #[.slice none 0 0, .int .i64 (NK : Int)] 24 (0, 0)) := fun C => row_alloc HB.out
        by_cases hk1 : KA = 1
        · have e1b : (KB == 40) = true := by rw [e1]; simpa using hk1
          have HX : Hid (((wr.setCell ⟨w2.heap.size, 1, none⟩ (.int .i64 ((NK : Int) + 1))).alloc (.cells #[.int .u8 KB, .int .i64 PP, .slice sr sn sc, .int .i64 MM, .int .i64 MX] 36)).heap[w2.heap.size]? = some (.cells #[.slice none 0 0, .int .i64 ((numN l (k + 1) : Nat) : Int)] 24 (0, 0))) := by
            show _ = _
            rw [row_alloc (box_set HB.out 1 _), HNu.out, if_pos hk1]
            rfl
          clear e1 hk1 hWb
          go_wp2
          go_roundw
          case rel => exact ⟨k + 1, by omega, by go_num, (hbr.setCell (p := ⟨w2.heap.size, 1, none⟩) (Nat.le_refl _) _).alloc (by simp; omega) _, HX⟩
          case measure => simp [intOf]; omega
        · have e1b : (KB == 40) = false := by rw [e1]; simpa using hk1
          have HX : Hid ((wr.alloc (.cells #[.int .u8 KB, .int .i64 PP, .slice sr sn sc, .int .i64 MM, .int .i64 MX] 36)).heap[w2.heap.size]? = some (.cells #[.slice none 0 0, .int .i64 ((numN l (k + 1) : Nat) : Int)] 24 (0, 0))) := by
            show _ = _
            rw [hWb, HNu.out, if_neg hk1]
            rfl
          clear e1 hk1 hWb
          go_wp2
          go_roundw
          case rel => exact ⟨k + 1, by omega, by go_num, hbr.alloc hsr _, HX⟩
          case measure => simp [intOf]; omega
      have hkj : k = j := by omega
      subst hkj
      have hbs := hbx.size
      have hbw : Below w.heap.size w wr := below_step hbx hbx.size hbr
      have hgj : ((numN l k : Nat) : Int) = (g : Int) := by rw [HN.out, Hgn.out, Nat.zero_add]
      rw [hgj] at HB
      have hlast := last_bj HBj.out Htsa.out
      have hS := l1Split_ok (c := cc) wr (HV.out.below hbr) (by have := HN.out; omega) (by have := HN.out; omega) (by omega) hlast
      have hpc := pieces_bj HBj.out fun t ht => ⟨(Htsa.out t ht).1, (Htsa.out t ht).2.1⟩
      rw [← HN.out] at hS
      have Hpc := hid hpc
      obtain ⟨R0, hR0⟩ : ∃ R0, R0 = wr := ⟨_, rfl⟩
      subst hR0
      clear hgj hlast hpc hlt hk
      go_wp2_with fail
      refine hS.mono ?_
      rintro e w3 ⟨pv, rfl, hPO, hb3⟩
      rw [Hpc.out] at hPO
      have hpl : (posL 0 ts).length = bs.length := by rw [posL_len]; exact Htsn.out
      obtain ⟨M, hM⟩ : ∃ M, M = bs.length := ⟨_, rfl⟩
      rw [hpl, ← hM] at hPO
      have hM0 : 0 < M := by omega
      have hM2 : M ≤ 2000 := by have := HN.out; omega
      obtain ⟨gp, cp, hpv, hgp1, hgp2⟩ := hPO.form hM0
      subst hpv
      have hcells : ∀ t, t < M → w3.cell? ⟨gp, t, none⟩ = some (pcV G 0 cc ((posL 0 ts).getD t (0, 0))) := by
        intro t ht
        rw [hPO.cellAt t (by omega), List.getElem?_map, List.getD_eq_getElem?_getD, List.getElem?_eq_getElem (by omega)]
        rfl
      have Hcells := hid hcells
      have HM2 := hid hM
      have hrl2 := row_lt HB.out
      have HB3 := hid (row_below HB.out hb3)
      have hb23 := below_step hbr hbr.size hb3
      clear hcells hPO hpl hM hS HB
      go_wp2
      go_loopw [120] (fun i wz => ∃ (x : Nat) (bv : Value), x ≤ M ∧ i = .int .i64 (x : Int) ∧ Below w2.heap.size w2 wz ∧ w3.heap.size ≤ wz.heap.size ∧ Hid (wz.heap[w2.heap.size]? = some (.cells #[bv, .int .i64 (g : Int)] 24 (0, 0)) ∧ BrO (w2.heap.size + 1) wz bv (bs.take x) ∧ bv.ownBlock ≠ some gp ∧ wz.heap[gp]? = w3.heap[gp]?)) (fun i _ => M - (intOf i).toNat)
      case atStart => exact ⟨0, .slice none 0 0, by omega, rfl, hb23, Nat.le_refl _, HB3.out, BrO.nil _ _, by simp [Value.ownBlock], rfl⟩
      case round =>
        obtain ⟨x, bv, hx, rfl, hbz, hwz, HT⟩ := hrel
        have hsz := hbz.size
        have hbzw := below_step hbx hbx.size hbz
        have hrl3 := row_lt HT.out.1
        by_cases hxM : x < M
        case neg =>
          have hxe : x = M := by omega
          subst hxe
          have hBO : BrO (w2.heap.size + 1) wr bv bs := by
            have := HT.out.2.1
            rw [HM2.out, List.take_length] at this
            exact this
          have hbvf : ∃ gb cb, bv = .slice (some ⟨gb, 0, none⟩) bs.length cb := by
            obtain ⟨nv, ho, _⟩ := hBO
            obtain ⟨gb, cb, e, _⟩ := ho.form (by have := HM2.out; omega)
            exact ⟨gb, cb, e⟩
          obtain ⟨gb, cb, hbv⟩ := hbvf
          subst hbv
          have htok : ∀ x ∈ l, TokB x := fun x hx => (Hkk.out x hx).1
          obtain ⟨hAOK, hSml⟩ := rl_all HR.out htok (by have := HN.out; omega)
          have hC := ruleWeight_ok (lo := w2.heap.size) (g : Int) _ bs wr (hBO.at (by omega)) hSml hAOK
          have HBO := hid hBO
          obtain ⟨z0, z1, -, -⟩ := row_two HT.out.1
          have hPr := hid hP2
          generalize hBL : bs.length = BL at *
          clear hBO hSml hAOK htok r0 r1 f0 f1
          go_wp2_with fail
          refine hC.mono ?_
          rintro e w4 ⟨rfl, hb4⟩
          obtain ⟨y0, y1, -, -⟩ := row_two (row_below HT.out.1 hb4)
          have hb24 := below_step hbz hsz hb4
          obtain ⟨r0, r1, f0, f1⟩ := row_two (row_below hPr.out hb24)
          have hbw4 := below_step hbx hbx.size hb24
          clear hC
          have hwlt : w.heap.size < w2.heap.size := row_lt hPr.out
          by_cases hwt : 2000 < ruleW bs
          · go_wp2
            refine bodyPost_ret (v := .tuple #[.agg #[.slice none 0 0, .int .i64 0], .int .i64 10, .int .i64 0]) (by simp [results, Tryz.results4, go_sem, r0, r1]) rfl ?_
            refine ⟨fun _ => ?_, fun h => absurd hwt h⟩
            exact .bad ((hbw4.setCell (Nat.le_refl _) _).setCell (Nat.le_refl _) _) rfl rfl
          · go_wp2
            refine bodyPost_ret (v := .tuple #[.agg #[.slice (some ⟨gb, 0, none⟩) BL cb, .int .i64 (g : Int)], .int .i64 0, .int .i64 0]) (by simp [results, Tryz.results4, go_sem, r0, r1]) rfl ?_
            refine ⟨fun h => absurd h (by omega), fun _ => ?_⟩
            refine ⟨(hbw4.setCell (Nat.le_refl _) _).setCell (Nat.le_refl _) _, _, rfl, ?_⟩
            have h9 : BrO (w2.heap.size + 1) ((w4.setCell ⟨w.heap.size, 0, none⟩ (.slice (some ⟨gb, 0, none⟩) BL cb)).setCell ⟨w.heap.size, 1, none⟩ (.int .i64 (g : Int))) (.slice (some ⟨gb, 0, none⟩) BL cb) bs := by
              refine BrO.keep HBO.out (by have := hb4.size; simp; omega) fun b h1 h2 => ?_
              rw [Below.heap_setCell _ _ _ _ (by simp; omega), Below.heap_setCell _ _ _ _ (by simp; omega), hb4.block b h2]
            exact h9.at (by omega)
        have hxI : (x : Int) < (M : Int) := by omega
        have hxb : x < bs.length := by have := HM2.out; omega
        obtain ⟨a, tk, c2, hlt, hpos, g2, hBr⟩ := Hat.out x hxb
        obtain ⟨ti, hAlt, hform⟩ := br_of hBr
        have c5 : wr.cell? ⟨gp, x, none⟩ = some (.slice (some ⟨G, a.length * 5, none⟩) tk.length (cc - a.length)) := by
          have c5 := Hcells.out x hxM
          rw [hpos] at c5
          rw [World.cell?_of_block (w := w3) HT.out.2.2.2, c5]
          unfold pcV
          rw [Nat.add_sub_cancel_left, Nat.zero_add]
        have hVp : ∀ W, Below w2.heap.size w2 W → TkV W G (a.length * 5) (numN a a.length) tk (fun i => q (a.length + i)) := by
          intro W hW
          have h2 := HV.out.below hW
          rw [hlt] at h2
          have h3 := h2.sub
          rw [Nat.zero_add, Nat.zero_add] at h3
          exact h3
        have hAl : a.length + tk.length ≤ k := by have := HN.out; have h9 := congrArg List.length hlt; simp at h9; omega
        have htk0 : 0 < tk.length := List.length_pos_iff.2 (br_even hBr).2.2.1
        obtain ⟨nT, nsT, hGT, _⟩ := id hAlt
        have hti0 : 0 < ti.length := List.length_pos_iff.2 (gr_ne hGT)
        obtain ⟨d, tk2, hbol, heol⟩ : ∃ (d : Nat) (tk2 : List Tok), (((bs.getD x .zero).bol = true ∧ d = 1 ∧ ∃ y : Tok, y.kind = 5 ∧ tk = y :: tk2) ∨ ((bs.getD x .zero).bol = false ∧ d = 0 ∧ tk = tk2)) ∧ (((bs.getD x .zero).eol = true ∧ ∃ y : Tok, y.kind = 6 ∧ tk2 = ti ++ [y]) ∨ ((bs.getD x .zero).eol = false ∧ tk2 = ti)) := by
          rcases hform with ⟨h1, h2, h3⟩ | ⟨y, hy, h1, h2, h3⟩ | ⟨y, hy, h1, h2, h3⟩ | ⟨y, z, hy, hz, h1, h2, h3⟩
          · exact ⟨0, ti, .inr ⟨h1, rfl, h3⟩, .inr ⟨h2, rfl⟩⟩
          · exact ⟨1, ti, .inl ⟨h1, rfl, y, hy, h3⟩, .inr ⟨h2, rfl⟩⟩
          · exact ⟨0, ti ++ [y], .inr ⟨h1, rfl, h3⟩, .inl ⟨h2, y, hy, rfl⟩⟩
          · exact ⟨1, ti ++ [z], .inl ⟨h1, rfl, y, hy, h3⟩, .inl ⟨h2, z, hz, rfl⟩⟩
        have htk2 : ∃ pre : List Tok, tk = pre ++ (tk2 ++ []) ∧ pre.length = d ∧ numN pre pre.length = 0 := by
          rcases hbol with ⟨_, h2, y, hy, h3⟩ | ⟨_, h2, h3⟩
          · exact ⟨[y], by rw [h3]; simp, by rw [h2]; rfl, by rw [show [y].length = 1 from rfl, numN_one, if_neg (by omega)]⟩
          · exact ⟨[], by rw [h3]; simp, by rw [h2]; rfl, rfl⟩
        obtain ⟨pre, hpre, hpl, hpn⟩ := htk2
        have hL2 : tk.length = d + tk2.length := by rw [hpre]; simp; omega
        have hVp2 : ∀ W, Below w2.heap.size w2 W → TkV W G (a.length * 5 + d * 5) (numN a a.length) tk2 (fun i => q (a.length + (d + i))) := by
          intro W hW
          have h2 := hVp W hW
          rw [hpre] at h2
          have h3 := h2.sub
          rw [hpn, hpl, Nat.add_zero] at h3
          exact h3
        have hti2 : ti.length ≤ tk2.length ∧ tk2.length ≤ ti.length + 1 := by
          rcases heol with ⟨_, y, hy, h3⟩ | ⟨_, h3⟩ <;> rw [h3] <;> simp
        have hVt : ∀ W, Below w2.heap.size w2 W → TkV W G (a.length * 5 + d * 5) (numN a a.length) ti (fun i => q (a.length + (d + i))) := by
          intro W hW
          have h2 := hVp2 W hW
          rcases heol with ⟨_, y, hy, h3⟩ | ⟨_, h3⟩
          · rw [h3] at h2
            have h4 := TkV.sub (a := []) (b := ti) (c := [y]) h2
            simpa [numN] using h4
          · rw [h3] at h2; exact h2
        have hkd : kAt tk 0 = 5 ↔ (bs.getD x .zero).bol = true := by
          rcases hbol with ⟨h1, h2, y, hy, h3⟩ | ⟨h1, h2, h3⟩
          · rw [h1, h3]; exact ⟨fun _ => rfl, fun _ => hy⟩
          · rw [h1, h3]
            constructor
            · intro h5
              have h6 : kAt tk2 0 = kAt ti 0 := by
                rcases heol with ⟨_, z, _, h7⟩ | ⟨_, h7⟩ <;> rw [h7]
                rw [kAt_app _ hti0]
              have := gr_head hGT
              omega
            · intro h; cases h
        have hke : kAt tk2 (tk2.length - 1) = 6 ↔ (bs.getD x .zero).eol = true := by
          rcases heol with ⟨h1, y, hy, h3⟩ | ⟨h1, h3⟩
          · rw [h1, h3]
            exact ⟨fun _ => rfl, fun _ => by rw [List.length_append, show [y].length = 1 from rfl, Nat.add_sub_cancel]; exact (kAt_end ti y).trans hy⟩
          · rw [h1, h3]
            constructor
            · intro h5
              have := gr_kinds hGT (ti.getD (ti.length - 1) tokZ) (by rw [List.getD_eq_getElem?_getD, List.getElem?_eq_getElem (by omega)]; exact List.getElem_mem _)
              unfold kAt at h5
              omega
            · intro h; cases h
        have hb5 : Below w2.heap.size w2 (wr.alloc (.cells #[.bool false, .bool false, .slice none 0 0] 43)) := hbz.alloc hsz _
        have k0 := (hVp _ hb5).kindC htk0
        rw [Nat.zero_mul, Nat.add_zero] at k0
        have e1 : (kB (kAt tk 0) == 94) = (bs.getD x .zero).bol := (kB_eq ((hVp _ hb5).kin 0 htk0) 5 (by omega)).trans (dec_iff hkd)
        generalize hBOL : (bs.getD x .zero).bol = BOL at *
        generalize hEOL : (bs.getD x .zero).eol = EOL at *
        generalize kB (kAt tk 0) = KB0 at *
        have HVp2 := hid hVp2
        have HVt := hid hVt
        have Hke := hid hke
        have HL2 := hid hL2
        have Hti2 := hid hti2
        have Hlt := hid hlt
        have HAlt := hid hAlt
        obtain ⟨L1, hL1⟩ : ∃ L1, L1 = tk.length := ⟨_, rfl⟩
        obtain ⟨L2, hL2e⟩ : ∃ L2, L2 = tk2.length := ⟨_, rfl⟩
        have hd1 : (BOL = true ∧ d = 1) ∨ (BOL = false ∧ d = 0) := by
          rcases hbol with ⟨h1, h2, _⟩ | ⟨h1, h2, _⟩
          · exact .inl ⟨h1, h2⟩
          · exact .inr ⟨h1, h2⟩
        have hde : (EOL = true ∧ L2 = ti.length + 1) ∨ (EOL = false ∧ L2 = ti.length) := by
          rcases heol with ⟨h1, y, hy, h2⟩ | ⟨h1, h2⟩
          · exact .inl ⟨h1, by rw [hL2e, h2]; simp⟩
          · exact .inr ⟨h1, by rw [hL2e, h2]⟩
        have Hd1 := hid hd1
        have Hde := hid hde
        have hLL : L1 = d + L2 := by omega
        have hL1k : L1 ≤ 2000 := by omega
        have hL2k : L2 ≤ L1 := by omega
        have HLL := hid hLL
        have hL10 : 0 < L1 := by omega
        have hL20 : 0 < L2 := by omega
        have hcA : a.length + L1 ≤ cc := by omega
        rw [← hL1] at c5
        obtain ⟨O1, hO1⟩ : ∃ O1, O1 = a.length * 5 := ⟨_, rfl⟩
        obtain ⟨C1, hC1⟩ : ∃ C1, C1 = cc - a.length := ⟨_, rfl⟩
        rw [← hO1, ← hC1] at c5
        rw [← hO1] at k0 HVp2 HVt
        have hC1L : L1 ≤ C1 := by omega
        have hC1b : C1 ≤ 9223372036854775807 := by omega
        have HL2e := hid hL2e
        clear hVp hVp2 hVt hke hkd hL2 hti2 hlt hAlt hform hbol heol hpre hpl hpn hpos hBr hGT hL1 hL2e hd1 hde hO1 hC1 hAl htk0 hcA hti0 hLL
        have hLI : (0 : Int) < (L1 : Int) := by omega
        go_upto_region 32 with fail
        obtain ⟨W5, hW5⟩ : ∃ W5, W5 = wr.alloc (.cells #[.bool false, .bool false, .slice none 0 0] 43) := ⟨_, rfl⟩
        have hQ5 : W5.heap[wr.heap.size]? = some (.cells #[.bool false, .bool false, .slice none 0 0] 43 (0, 0)) := by rw [hW5]; exact heap_alloc_new _ _
        have hbQ : Below wr.heap.size wr W5 := by rw [hW5]; exact (Below.refl _ _).alloc (Nat.le_refl _) _
        rw [← hW5] at k0 ⊢
        clear hW5 hb5
        go_cut [129] from 121 to 128 (fun v wx => v = .bool BOL ∧ wx = W5)
        case first =>
          go_wp2
          go_meet
          case rel => exact ⟨rfl, rfl⟩
        obtain ⟨rfl, hwc⟩ := hcut
        subst hwc
        rename_i hK0
        refine hK0 _ _ ?_
        clear k0 e1 c5
        go_cut [16] from 121 to 132 (fun v wx => v = .slice (some ⟨G, O1 + d * 5, none⟩) L2 (C1 - d) ∧ Hid (wx.heap[wr.heap.size]? = some (.cells #[.bool BOL, .bool false, .slice none 0 0] 43 (0, 0))) ∧ Below wr.heap.size wr wx)
        case first =>
          rcases Hd1.out with ⟨hB, hd⟩ | ⟨hB, hd⟩
          · subst hB hd
            have i1 : (1 : Int) ≤ (L1 : Int) := by omega
            have i2 : (1 : Int) ≤ (C1 : Int) := by omega
            have i3 : (L1 : Int) ≤ (C1 : Int) := by omega
            have i4 : ¬C1 - 1 = 0 := by have := HLL.out; omega
            have i5 : L1 - 1 = L2 := by have := HLL.out; omega
            have q0 := row_cells hQ5 0
            have q1 : wc.frozen? ⟨wr.heap.size, 0, none⟩ = false := frozen_of_row _ _ _ _ _ hQ5
            have HQ5 := hid hQ5
            clear hQ5
            go_wp2
            go_meet
            case rel => exact ⟨by rw [Nat.one_mul], box_set HQ5.out 0 _, hbQ.setCell (Nat.le_refl _) _⟩
          · subst hB hd
            have hLe : L1 = L2 := by have := HLL.out; omega
            clear HLL hL2k
            subst hLe
            go_wp2
            go_meet
            case rel => exact ⟨rfl, hQ5, hbQ⟩
        obtain ⟨hsl, HQ6, hb6⟩ := hcut
        subst hsl
        have hb26 := below_step hbz hsz hb6
        have k0 := (HVp2.out _ hb26).kindC (k := L2 - 1) (by have := HL2e.out; omega)
        have hke2 := Hke.out
        rw [← HL2e.out] at hke2
        have e1 : (kB (kAt tk2 (L2 - 1)) == 36) = EOL := (kB_eq ((HVp2.out _ hb26).kin (L2 - 1) (by have := HL2e.out; omega)) 6 (by omega)).trans (dec_iff hke2)
        generalize kB (kAt tk2 (L2 - 1)) = KB1 at *
        generalize hO2 : O1 + d * 5 = O2 at *
        generalize hC2e : C1 - d = C2 at *
        have hC2L : L2 ≤ C2 := by have := HLL.out; omega
        have hC2b : C2 ≤ 9223372036854775807 := by omega
        have i1 : ((L2 : Int) - 1).toNat = L2 - 1 := by omega
        have i2 : (0 : Int) ≤ (L2 : Int) - 1 := by omega
        have i3 : (L2 : Int) - 1 < (L2 : Int) := by omega
        have i4 : (L2 : Int) - 1 ≤ (C2 : Int) := by omega
        have i5 : (L2 : Int) ≤ 2000 := by omega
        clear hke2
        have hlim : L2 ≤ 2000 := by omega
        go_upto_region 35 with fail
        go_cut [140] from 121 to 139 (fun v wx => v = .bool EOL ∧ wx = wc)
        case first =>
          go_wp2
          go_meet
          case rel => exact ⟨rfl, rfl⟩
        obtain ⟨rfl, hwc⟩ := hcut
        subst hwc
        rename_i hK1
        refine hK1 _ _ ?_
        clear k0 e1
        go_cut [16] from 121 to 146 (fun v wx => v = .slice (some ⟨G, O2, none⟩) ti.length C2 ∧ Hid (wx.heap[wr.heap.size]? = some (.cells #[.bool BOL, .bool EOL, .slice none 0 0] 43 (0, 0))) ∧ Below wr.heap.size wr wx)
        case first =>
          have q0 := row_cells HQ6.out 1
          have q1 : wc.frozen? ⟨wr.heap.size, 1, none⟩ = false := frozen_of_row _ _ _ _ _ HQ6.out
          rcases Hde.out with ⟨hE, hde⟩ | ⟨hE, hde⟩
          · have hti : ti.length = L2 - 1 := by omega
            have Hti := hid hti
            clear hti hde Hti2
            subst hE
            go_wp2
            go_meet
            case rel => exact ⟨by rw [Hti.out], box_set HQ6.out 1 _, hb6.setCell (Nat.le_refl _) _⟩
          · have Hti := hid hde
            clear hde Hti2
            subst hE
            go_wp2
            go_meet
            case rel => exact ⟨by rw [Hti.out], HQ6, hb6⟩
        obtain ⟨hsl, HQ7, hb7⟩ := hcut
        subst hsl
        have hb27 := below_step hbz hsz hb7
        have hC := l1Seq_ok (c := C2) _ HAlt.out (by have h9 := HVt.out _ hb27; rw [Nat.zero_add]; exact h9) (by have := Hti2.out; have := HL2e.out; omega) (by have := Hti2.out; have := HL2e.out; omega) (by omega)
        have hs7 := hb7.size
        have hq7 := row_lt HQ7.out
        generalize ti.length = TL at *
        go_wp2_with fail
        refine hC.mono ?_
        rintro e w8 ⟨v8, rfl, hNU, hb8⟩
        obtain ⟨b8, c8, s8, hv8, -⟩ := id hNU
        subst hv8
        have hs8 := hb8.size
        have hQ8 := row_below HQ7.out hb8
        have hb28 := below_step hb27 hb27.size hb8
        have hP8 : w8.heap[w2.heap.size]? = some (.cells #[bv, .int .i64 (g : Int)] 24 (0, 0)) := by
          rw [hb8.block _ (by omega), hb7.block _ (by omega)]
          exact HT.out.1
        obtain ⟨pz0, pz1, pf0, pf1⟩ := row_two hP8
        obtain ⟨qz0, qz1, qz2⟩ : w8.cell? ⟨wr.heap.size, 0, none⟩ = some (.bool BOL) ∧ w8.cell? ⟨wr.heap.size, 1, none⟩ = some (.bool EOL) ∧ w8.cell? ⟨wr.heap.size, 2, none⟩ = some (.slice none 0 0) := ⟨row_cells hQ8 0, row_cells hQ8 1, row_cells hQ8 2⟩
        have qf2 : w8.frozen? ⟨wr.heap.size, 2, none⟩ = false := frozen_of_row _ _ _ _ _ hQ8
        have hbvb : ∀ b, bv.ownBlock = some b → w2.heap.size + 1 ≤ b ∧ b < wr.heap.size := fun b e => by
          obtain ⟨nv, ho, _⟩ := HT.out.2.1
          exact ownsRow_blk ho e
        have hne1 : w2.heap.size ≠ wr.heap.size := by omega
        have hW0s : (w8.setCell ⟨wr.heap.size, 2, none⟩ (.slice (some ⟨b8, 0, none⟩) (bs.getD x .zero).nodes.length c8)).heap.size = w8.heap.size := by simp
        have hB9 : BrO (w2.heap.size + 1) (w8.setCell ⟨wr.heap.size, 2, none⟩ (.slice (some ⟨b8, 0, none⟩) (bs.getD x .zero).nodes.length c8)) bv (bs.take x) := by
          refine BrO.keep HT.out.2.1 (by rw [hW0s]; omega) fun b h1 h2 => ?_
          rw [Below.heap_setCell _ _ _ _ (by show b ≠ wr.heap.size; omega), hb8.block b (by omega), hb7.block b h2]
        have hN9 : NdU (fun b => w2.heap.size + 1 ≤ b ∧ bv.ownBlock ≠ some b) (w8.setCell ⟨wr.heap.size, 2, none⟩ (.slice (some ⟨b8, 0, none⟩) (bs.getD x .zero).nodes.length c8)) (.slice (some ⟨b8, 0, none⟩) (bs.getD x .zero).nodes.length c8) (bs.getD x .zero).nodes := by
          refine (hNU.keep (W' := w8.setCell _ _) (by rw [hW0s]; exact Nat.le_refl _) fun b h1 h2 => Below.heap_setCell _ _ _ _ (by show b ≠ wr.heap.size; omega)).mono fun b h1 _ => ⟨by omega, fun e => by have := (hbvb b e).2; omega⟩
        have HB9 := hid hB9
        have HN9 := hid hN9
        have HP8 := hid hP8
        have HQ8 := hid hQ8
        have Hbvb := hid hbvb
        have htl : (bs.take x).length = x := by rw [List.length_take]; omega
        have Htl := hid htl
        clear hB9 hN9 hP8 hQ8 hbvb hNU htl hC hW0s
        generalize hNL : (bs.getD x .zero).nodes.length = NL at *
        go_wp2_with (at_builtin; refine wpList_branch (W0 := w8.setCell ⟨wr.heap.size, 2, none⟩ (.slice (some ⟨b8, 0, none⟩) NL c8)) rfl (.tmp 151) (.tmp 153) rfl (w2.heap.size + 1) bv (.slice (some ⟨b8, 0, none⟩) NL c8) (bs.take x) (bs.getD x .zero) (by rw [hBOL, hEOL]) rfl HB9.out w8.heap.size (by simp) rfl HN9.out (by rw [Htl.out]; omega) (by simp; omega) ?_; intro g9 cap9 w9 hB10 grow9 at9; rw [Htl.out] at hB10 ⊢; have hgP : w9.heap[w2.heap.size]? = some (.cells #[bv, .int .i64 (g : Int)] 24 (0, 0)) := (by rw [grow9.block _ (by simp; omega) (fun e => by have := (Hbvb.out _ e.symm).1; omega), Below.heap_setCell _ _ _ _ (by show w2.heap.size ≠ wr.heap.size; omega)]; exact HP8.out); have y0 := (row_two hgP).1; have y1 := (row_two hgP).2.2.1)
        have hgp9 : w9.heap[gp]? = w3.heap[gp]? := by
          rw [grow9.block gp (by simp; omega) (fun e => HT.out.2.2.1 e.symm), Below.heap_setCell _ _ _ _ (by show gp ≠ wr.heap.size; omega), hb8.block gp (by omega), hb7.block gp (by omega)]
          exact HT.out.2.2.2
        have hs9 : w8.heap.size ≤ w9.heap.size := by have := grow9.size; simpa using this
        have hb29 : Below w2.heap.size w2 w9 := (hb28.setCell (p := ⟨wr.heap.size, 2, none⟩) (by show w2.heap.size ≤ wr.heap.size; omega) _).grown grow9 (by simp; omega) (fun k hk => by have := (Hbvb.out k hk).1; omega)
        have hne9 : (Value.slice (some ⟨g9, 0, none⟩) (x + 1) cap9).ownBlock ≠ some gp := fun e => by
          have e2 : g9 = gp := by simpa [Value.ownBlock] using e
          subst e2
          rcases at9 with h | h
          · exact HT.out.2.2.1 h
          · simp at h; omega
        have htk1 : bs.take (x + 1) = bs.take x ++ [bs.getD x .zero] := by
          rw [List.take_succ_eq_append_getElem hxb, List.getD_eq_getElem?_getD, List.getElem?_eq_getElem hxb]; rfl
        have HF : Hid ((w9.setCell ⟨w2.heap.size, 0, none⟩ (.slice (some ⟨g9, 0, none⟩) (x + 1) cap9)).heap[w2.heap.size]? = some (.cells #[.slice (some ⟨g9, 0, none⟩) (x + 1) cap9, .int .i64 (g : Int)] 24 (0, 0)) ∧ BrO (w2.heap.size + 1) (w9.setCell ⟨w2.heap.size, 0, none⟩ (.slice (some ⟨g9, 0, none⟩) (x + 1) cap9)) (.slice (some ⟨g9, 0, none⟩) (x + 1) cap9) (bs.take (x + 1)) ∧ (Value.slice (some ⟨g9, 0, none⟩) (x + 1) cap9).ownBlock ≠ some gp ∧ (w9.setCell ⟨w2.heap.size, 0, none⟩ (.slice (some ⟨g9, 0, none⟩) (x + 1) cap9)).heap[gp]? = w3.heap[gp]?) := by
          refine ⟨box_set hgP 0 _, ?_, hne9, ?_⟩
          · rw [htk1]
            exact hB10.keep (by simp) fun b h1 _ => Below.heap_setCell _ _ _ _ (by show b ≠ w2.heap.size; omega)
          · rw [Below.heap_setCell _ _ _ _ (by show gp ≠ w2.heap.size; omega)]
            exact hgp9
        have hbF : Below w2.heap.size w2 (w9.setCell ⟨w2.heap.size, 0, none⟩ (.slice (some ⟨g9, 0, none⟩) (x + 1) cap9)) := hb29.setCell (p := ⟨w2.heap.size, 0, none⟩) (Nat.le_refl _) _
        have hsF : w3.heap.size ≤ (w9.setCell ⟨w2.heap.size, 0, none⟩ (.slice (some ⟨g9, 0, none⟩) (x + 1) cap9)).heap.size := by simp; omega
        clear hB10 grow9 at9 hgP hgp9 hne9 htk1 HB9 HN9 pz0 pz1 pf0 pf1 qz0 qz1 qz2 qf2
        go_wp2
        go_roundw
        case rel => exact ⟨x + 1, _, by omega, by go_num, hbF, hsF, HF⟩
        case measure => simp [intOf]; omega
end Go.Proofs.YtgbdlgogccgciaaGreatDoor
