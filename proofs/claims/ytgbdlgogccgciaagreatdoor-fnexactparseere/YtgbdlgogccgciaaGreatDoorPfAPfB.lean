import Derived.Test.YtgbdlgogccgciaaGreatDoorRWgtPeXPeYPeZ
namespace Go.Proofs.YtgbdlgogccgciaaGreatDoor
open Go.RowKit
attribute [local go_sem ↓] Go.wp_at_zero Go.wp_at_succ

/- spec.ParseERE: an operand is missing; a group is never closed. -/
set_option maxRecDepth 100000 in
set_option maxHeartbeats 2000000 in
theorem specParse_op (t : ByteArray) (w : World) (hs : t.size ≤ 2000) {l : List Tok} (hl : lexF t.data.toList 0 [] = (l, 0, 0)) (hall : ∀ j, j < l.length → faultF l j = 0) (ho : opens (prevK l l.length)) :
    Calls Tryz.prog 4 #[.string t] w (ParA w .zero 6 (t.size : Int)) := by
  have h1 : ¬(2000 : Int) < (t.size : Int) := by omega
  have hk := lexF_ok t.data.toList t.data.toList.length 0 [] (by omega) (by simp) (by simp) (by simp)
  rw [hl] at hk
  obtain ⟨hkk, hkl, _⟩ := hk
  have hsz : t.data.toList.length = t.size := Array.length_toList
  have hkl0 : l.length ≤ t.data.toList.length := hkl
  have hkk : ∀ x ∈ l, TokB x ∧ x.kind < 7 := hkk
  have hkl : l.length ≤ 2000 := by omega
  clear hsz
  go_enter Tryz.func4, Tryz.ntmps4
  go_wp2_with fail
  obtain ⟨W1, hW1⟩ : ∃ W1, W1 = w.alloc (.cells #[.slice none 0 0, .int .i64 0] 24) := ⟨_, rfl⟩
  have hP : W1.heap[w.heap.size]? = some (.cells #[.slice none 0 0, .int .i64 0] 24 (0, 0)) := by rw [hW1]; exact heap_alloc_new _ _
  have hbW : Below w.heap.size w W1 := by rw [hW1]; exact (Below.refl _ _).alloc (Nat.le_refl _) _
  rw [← hW1]
  clear hW1
  refine (l1Lex_ok t W1 (by omega)).mono ?_
  rw [hl]
  rintro e w2 ⟨hb2, sv, q, rfl, hS⟩
  have hP2 := row_below hP hb2
  have hbx := below_step hbW hbW.size hb2
  have hS : TkS W1.heap.size w2 sv l q := hS
  have HS := hid hS
  have Hkk := hid hkk
  have hPW := hP
  clear hP hS hkk
  rcases Nat.eq_zero_or_pos l.length with h0 | h0
  · have hsv : ∃ ao cc, sv = .slice ao 0 cc := by
      rcases HS.out.row.2 with ⟨h, _⟩ | ⟨g, cap, _, h, _⟩
      · exact ⟨_, _, h⟩
      · exact ⟨_, _, by rw [h0] at h; exact h⟩
    obtain ⟨ao, cc, rfl⟩ := hsv
    have hC := l1Kind_out (v := ao) (n := 0) (c := cc) (ck := (0 : Int) - 1) w2 (.inl (by omega))
    obtain ⟨r0, r1, f0, f1⟩ := row_two hP2
    clear hall ho hkl h0 hl
    go_wp2
    go_loop [35] (fun i => i = .int .i64 0) (fun _ => 0)
    case atStart => rfl
    case round =>
      obtain rfl := hrel
      go_wp2_with fail
      refine hC.mono ?_
      rintro e w3 ⟨rfl, hw⟩
      rw [hw]
      clear hw w3 hC
      go_wp2
      refine bodyPost_ret (v := .tuple #[.agg #[.slice none 0 0, .int .i64 0], .int .i64 6, .int .i64 t.size]) (by simp [results, Tryz.results4, go_sem, r0, r1]) rfl ?_
      exact .bad ((hbx.setCell (Nat.le_refl _) _).setCell (Nat.le_refl _) _) rfl rfl
  have hG := HS.out.to Hkk.out h0
  obtain ⟨G, cc, rfl, hV, hc1, hc2⟩ := hG
  have hGw : w.heap.size ≠ G := by have h1 : W1.heap.size ≤ G := (ownsRow_blk HS.out.row rfl).1; have := row_lt hPW; omega
  have HV := hid hV
  obtain ⟨n, hn⟩ : ∃ n, n = l.length := ⟨_, rfl⟩
  have hn2 : n ≤ 2000 := by omega
  have hn0 : 0 < n := by omega
  have hcn : (n : Int) ≤ (cc : Int) := by omega
  have hc3 : (cc : Int) ≤ 9223372036854775807 := by omega
  have HN := hid hn
  rw [← hn]
  obtain ⟨r0, r1, f0, f1⟩ := row_two hP2
  clear hV hn hkl
  go_wp2
  go_loop [35] (fun i => ∃ j : Nat, j ≤ n ∧ i = .int .i64 (j : Int)) (fun i => n - (intOf i).toNat)
  case atStart => exact ⟨0, by omega, rfl⟩
  case round =>
    obtain ⟨j, hj, rfl⟩ := hrel
    by_cases hlt : j < n
    · have hjn : (j : Int) < (n : Int) := by omega
      have hC := l1Fault_ok (c := cc) w2 HV.out (k := j) (by have := HN.out; omega) (by have := HN.out; omega)
      rw [← HN.out, hall j (by have := HN.out; omega)] at hC
      go_wp2_with fail
      refine hC.mono ?_
      rintro e w3 ⟨rfl, hw⟩
      rw [hw]
      clear hw w3 hC
      go_wp2
      go_round
      case rel => exact ⟨j + 1, by omega, by go_num⟩
      case measure => simp [intOf]; omega
    have hjn : j = n := by omega
    subst hjn
    have hK7 : Kinds l := fun k hk => HV.out.kin k hk
    have hP8 := prevK_lt hK7 (k := l.length) (Nat.le_refl _)
    have hC := l1Kind_prev (c := cc) w2 HV.out (k := l.length) (ck := (j : Int) - 1) (Nat.le_refl _) (by have := HN.out; omega)
    rw [← HN.out] at hC hP8
    have hP7 : prevK l j ≠ 7 := by unfold prevK; rw [if_neg (by omega)]; have := hK7 (j - 1) (by have := HN.out; omega); omega
    have p1 : (pB (prevK l j) == 40) = decide (prevK l j = 1) := pB_eq hP8 1 (by omega)
    have p3 : (pB (prevK l j) == 124) = decide (prevK l j = 3) := pB_eq hP8 3 (by omega)
    have p5 : (pB (prevK l j) == 94) = decide (prevK l j = 5) := pB_eq hP8 5 (by omega)
    have P1 := hid p1
    have P3 := hid p3
    have P5 := hid p5
    rw [← HN.out] at ho
    have HO := hid ho
    have HP7 := hid hP7
    have hj0 : ((j : Int) == 0) = false := by simp; omega
    clear p1 p3 p5 ho hP7 hK7 hP8 hj hlt
    generalize prevK l j = PK at *
    generalize pB PK = PB at *
    go_wp2_with fail
    refine hC.mono ?_
    rintro e w3 ⟨rfl, hw⟩
    rw [hw]
    clear hw w3 hC
    by_cases e1 : PK = 1
    · have q1 : (PB == 40) = true := by rw [P1.out]; simp [e1]
      go_wp2
      refine bodyPost_ret (v := .tuple #[.agg #[.slice none 0 0, .int .i64 0], .int .i64 6, .int .i64 t.size]) (by simp [results, Tryz.results4, go_sem, r0, r1]) rfl ?_
      exact .bad ((hbx.setCell (Nat.le_refl _) _).setCell (Nat.le_refl _) _) rfl rfl
    have q1 : (PB == 40) = false := by rw [P1.out]; simp [e1]
    by_cases e3 : PK = 3
    · have q3 : (PB == 124) = true := by rw [P3.out]; simp [e3]
      go_wp2
      refine bodyPost_ret (v := .tuple #[.agg #[.slice none 0 0, .int .i64 0], .int .i64 6, .int .i64 t.size]) (by simp [results, Tryz.results4, go_sem, r0, r1]) rfl ?_
      exact .bad ((hbx.setCell (Nat.le_refl _) _).setCell (Nat.le_refl _) _) rfl rfl
    have q3 : (PB == 124) = false := by rw [P3.out]; simp [e3]
    have e5 : PK = 5 := by have h1 := HO.out; have h2 := HP7.out; unfold opens at h1; omega
    have q5 : (PB == 94) = true := by rw [P5.out]; simp [e5]
    go_wp2
    refine bodyPost_ret (v := .tuple #[.agg #[.slice none 0 0, .int .i64 0], .int .i64 6, .int .i64 t.size]) (by simp [results, Tryz.results4, go_sem, r0, r1]) rfl ?_
    exact .bad ((hbx.setCell (Nat.le_refl _) _).setCell (Nat.le_refl _) _) rfl rfl
set_option maxRecDepth 100000 in
set_option maxHeartbeats 4000000 in
theorem specParse_opn (t : ByteArray) (w : World) (hs : t.size ≤ 2000) {l : List Tok} (hl : lexF t.data.toList 0 [] = (l, 0, 0)) (hall : ∀ j, j < l.length → faultF l j = 0) (ho : ¬opens (prevK l l.length)) (hd : 0 < depI l l.length) :
    Calls Tryz.prog 4 #[.string t] w (ParA w .zero 8 ((l.getD ((stkN l l.length).getD ((stkN l l.length).length - 1) 0) tokZ).pos : Int)) := by
  obtain ⟨T, _, hT, hT1, hT2, hT3, hT4⟩ := last_open hall hd
  rw [← hT]
  have HT3 := hid hT3
  have HT4 := hid hT4
  clear hT hT3 hT4
  have h0 : 0 < l.length := by omega
  have h1 : ¬(2000 : Int) < (t.size : Int) := by omega
  have hk := lexF_ok t.data.toList t.data.toList.length 0 [] (by omega) (by simp) (by simp) (by simp)
  rw [hl] at hk
  obtain ⟨hkk, hkl, _⟩ := hk
  have hsz : t.data.toList.length = t.size := Array.length_toList
  have hkl0 : l.length ≤ t.data.toList.length := hkl
  have hkk : ∀ x ∈ l, TokB x ∧ x.kind < 7 := hkk
  have hkl : l.length ≤ 2000 := by omega
  clear hsz
  go_enter Tryz.func4, Tryz.ntmps4
  go_wp2_with fail
  obtain ⟨W1, hW1⟩ : ∃ W1, W1 = w.alloc (.cells #[.slice none 0 0, .int .i64 0] 24) := ⟨_, rfl⟩
  have hP : W1.heap[w.heap.size]? = some (.cells #[.slice none 0 0, .int .i64 0] 24 (0, 0)) := by rw [hW1]; exact heap_alloc_new _ _
  have hbW : Below w.heap.size w W1 := by rw [hW1]; exact (Below.refl _ _).alloc (Nat.le_refl _) _
  rw [← hW1]
  clear hW1
  refine (l1Lex_ok t W1 (by omega)).mono ?_
  rw [hl]
  rintro e w2 ⟨hb2, sv, q, rfl, hS⟩
  have hP2 := row_below hP hb2
  have hbx := below_step hbW hbW.size hb2
  have hS : TkS W1.heap.size w2 sv l q := hS
  have HS := hid hS
  have Hkk := hid hkk
  have hPW := hP
  clear hP hS hkk
  have hG := HS.out.to Hkk.out h0
  obtain ⟨G, cc, rfl, hV, hc1, hc2⟩ := hG
  have hGw : w.heap.size ≠ G := by have h1 : W1.heap.size ≤ G := (ownsRow_blk HS.out.row rfl).1; have := row_lt hPW; omega
  have HV := hid hV
  obtain ⟨n, hn⟩ : ∃ n, n = l.length := ⟨_, rfl⟩
  have hn2 : n ≤ 2000 := by omega
  have hn0 : 0 < n := by omega
  have hcn : (n : Int) ≤ (cc : Int) := by omega
  have hc3 : (cc : Int) ≤ 9223372036854775807 := by omega
  have HN := hid hn
  rw [← hn]
  obtain ⟨r0, r1, f0, f1⟩ := row_two hP2
  clear hV hn hkl
  go_wp2
  go_loop [35] (fun i => ∃ j : Nat, j ≤ n ∧ i = .int .i64 (j : Int)) (fun i => n - (intOf i).toNat)
  case atStart => exact ⟨0, by omega, rfl⟩
  case round =>
    obtain ⟨j, hj, rfl⟩ := hrel
    by_cases hlt : j < n
    · have hjn : (j : Int) < (n : Int) := by omega
      have hC := l1Fault_ok (c := cc) w2 HV.out (k := j) (by have := HN.out; omega) (by have := HN.out; omega)
      rw [← HN.out, hall j (by have := HN.out; omega)] at hC
      go_wp2_with fail
      refine hC.mono ?_
      rintro e w3 ⟨rfl, hw⟩
      rw [hw]
      clear hw w3 hC
      go_wp2
      go_round
      case rel => exact ⟨j + 1, by omega, by go_num⟩
      case measure => simp [intOf]; omega
    have hjn : j = n := by omega
    subst hjn
    have hK7 : Kinds l := fun k hk => HV.out.kin k hk
    have hP8 := prevK_lt hK7 (k := l.length) (Nat.le_refl _)
    have hC := l1Kind_prev (c := cc) w2 HV.out (k := l.length) (ck := (j : Int) - 1) (Nat.le_refl _) (by have := HN.out; omega)
    rw [← HN.out] at hC hP8
    have hP7 : prevK l j ≠ 7 := by unfold prevK; rw [if_neg (by omega)]; have := hK7 (j - 1) (by have := HN.out; omega); omega
    have p1 : (pB (prevK l j) == 40) = decide (prevK l j = 1) := pB_eq hP8 1 (by omega)
    have p3 : (pB (prevK l j) == 124) = decide (prevK l j = 3) := pB_eq hP8 3 (by omega)
    have p5 : (pB (prevK l j) == 94) = decide (prevK l j = 5) := pB_eq hP8 5 (by omega)
    have P1 := hid p1
    have P3 := hid p3
    have P5 := hid p5
    rw [← HN.out] at ho
    have HO := hid ho
    have HP7 := hid hP7
    have hj0 : ((j : Int) == 0) = false := by simp; omega
    clear p1 p3 p5 ho hP7 hK7 hP8 hj hlt
    generalize prevK l j = PK at *
    generalize pB PK = PB at *
    go_wp2_with fail
    refine hC.mono ?_
    rintro e w3 ⟨rfl, hw⟩
    rw [hw]
    clear hw w3 hC
    have q1 : (PB == 40) = false := by rw [P1.out]; have := HO.out; simp [opens] at this; simp; omega
    have q3 : (PB == 124) = false := by rw [P3.out]; have := HO.out; simp [opens] at this; simp; omega
    have q5 : (PB == 94) = false := by rw [P5.out]; have := HO.out; simp [opens] at this; simp; omega
    have hD := l1Depth_ok (c := cc) w2 HV.out (k := l.length) (ck := (j : Int)) (Nat.le_refl _) (by have := HN.out; omega) (by have := HN.out; omega)
    rw [← HN.out] at hD
    rw [← HN.out] at hd
    have hTj : T < j := by have := HN.out; omega
    generalize depI l j = DD at *
    clear hl
    go_wp2_with fail
    refine hD.mono ?_
    rintro e w3 ⟨rfl, hw⟩
    rw [hw]
    clear hw w3 hD
    go_wp2
    go_loop [11] (fun v => ∃ k : Nat, T ≤ k ∧ k < j ∧ v = .int .i64 (k : Int)) (fun v => (intOf v).toNat)
    case atStart => exact ⟨j - 1, by omega, by omega, by go_num⟩
    case round =>
      obtain ⟨k, hk1, hk2, rfl⟩ := hrel
      have hkj : (k : Int) < (j : Int) := by omega
      have hkl : k < l.length := by have := HN.out; omega
      have cs := HV.out.kindC hkl
      rw [Nat.zero_add] at cs
      have e1 : (kB (kAt l k) == 40) = decide (kAt l k = 1) := kB_eq (HV.out.kin k hkl) 1 (by omega)
      have hC := l1Unclosed_ok (c := cc) w2 HV.out (k := k) hkl (by omega) (by omega) (by have := HN.out; omega)
      rw [← HN.out] at hC
      by_cases hkT : k = T
      · subst hkT
        rw [hT2] at cs
        have c0 : w2.cell? ⟨G, k * 5, none⟩ = some (.int .u8 40) := cs
        clear cs
        have z1 := HV.out.posC hkl
        rw [Nat.zero_add] at z1
        generalize ((l.getD k tokZ).pos : Int) = PP at *
        have z2 : ((w2.setCell ⟨w.heap.size, 0, none⟩ (.slice none 0 0)).setCell ⟨w.heap.size, 1, none⟩ (.int .i64 0)).cell? ⟨G, k * 5 + 1, none⟩ = some (.int .i64 PP) := by
          rw [World.cell?_of_block (w := w2)]
          · exact z1
          · rw [Below.heap_setCell _ _ _ _ (fun e => hGw e.symm), Below.heap_setCell _ _ _ _ (fun e => hGw e.symm)]
        clear e1
        go_wp2_with fail
        refine hC.mono ?_
        rintro e w3 ⟨b, rfl, hw, hb⟩
        rw [hw]
        clear hw w3 hC
        have hbt : b = true := hb.2 HT3.out
        clear hb
        subst hbt
        go_wp2
        clear hall hkk hS hT1 hT2 hk1 hTj hd c0 HT3 HT4 HO HP7 P1 P3 P5 q1 q3 q5 hP2 hPW
        go_region
        all_goals go_wp2
        all_goals refine bodyPost_ret (v := .tuple #[.agg #[.slice none 0 0, .int .i64 0], .int .i64 8, .int .i64 PP]) (by simp [results, Tryz.results4, go_sem, r0, r1]) rfl ?_
        all_goals first | exact .bad ((hbx.setCell (Nat.le_refl _) _).setCell (Nat.le_refl _) _) rfl rfl | exact .bad ((hbx.setCell (Nat.le_refl _) _).setCell (Nat.le_refl _) _).drew rfl rfl | exact .bad ((hbx.drew.setCell (Nat.le_refl _) _).setCell (Nat.le_refl _) _) rfl rfl
      · by_cases hk3 : kAt l k = 1
        · rw [hk3] at cs
          have c0 : w2.cell? ⟨G, k * 5, none⟩ = some (.int .u8 40) := cs
          clear cs
          have hnu := HT4.out k (by omega) hkl hk3
          clear e1
          go_wp2_with fail
          refine hC.mono ?_
          rintro e w3 ⟨b, rfl, hw, hb⟩
          rw [hw]
          clear hw w3 hC
          have hbt : b = false := by cases hb2 : b with | false => rfl | true => exact absurd (hb.1 hb2) hnu
          subst hbt
          go_wp2
          go_round
          case rel => exact ⟨k - 1, by omega, by omega, by go_num⟩
          case measure => simp [intOf]; omega
        · have e1b : (kB (kAt l k) == 40) = false := by rw [e1]; simpa using hk3
          generalize kB (kAt l k) = KB at *
          clear hC e1
          go_wp2
          go_round
          case rel => exact ⟨k - 1, by omega, by omega, by go_num⟩
          case measure => simp [intOf]; omega
end Go.Proofs.YtgbdlgogccgciaaGreatDoor
namespace Go.Proofs.YtgbdlgogccgciaaGreatDoor
open Go.RowKit

/- BRANCHES IN MEMORY. -/
def br3 (b : BranchD) (s : Value) : List Value := [.bool b.bol, .bool b.eol, s]
def brC (bs : List BranchD) (nv : Nat → Value) : List Value := (List.range bs.length).flatMap fun k => br3 (bs.getD k .zero) (nv k)
theorem brC_len (bs : List BranchD) (nv : Nat → Value) : (brC bs nv).length = bs.length * 3 := flat_len (f := fun k => br3 (bs.getD k .zero) (nv k)) (fun _ => rfl) _
theorem brC_get (bs : List BranchD) (nv : Nat → Value) {k j : Nat} (hk : k < bs.length) (hj : j < 3) : (brC bs nv)[k * 3 + j]? = (br3 (bs.getD k .zero) (nv k))[j]? := flat_get (f := fun k => br3 (bs.getD k .zero) (nv k)) (sz := 3) (fun _ => rfl) _ _ _ hk hj
def BrO (B : Nat) (W : World) (v : Value) (bs : List BranchD) : Prop := ∃ nv, W.ownsRow B 43 3 v bs.length (brC bs nv) ∧ ∀ k, k < bs.length → NdU (fun b => B ≤ b ∧ v.ownBlock ≠ some b) W (nv k) (bs.getD k .zero).nodes
theorem BrO.nil (B : Nat) (W : World) : BrO B W (.slice none 0 0) [] := ⟨fun _ => .slice none 0 0, World.ownsRow_nil _ _ _ _, fun k h => absurd h (by simp)⟩
theorem BrO.keep {B : Nat} {W W' : World} {v : Value} {bs : List BranchD} (h : BrO B W v bs) (hs : W.heap.size ≤ W'.heap.size) (hk : ∀ b, B ≤ b → b < W.heap.size → W'.heap[b]? = W.heap[b]?) : BrO B W' v bs := by
  obtain ⟨nv, ho, hn⟩ := h
  exact ⟨nv, ownsRow_keep ho fun b hb => hk b (ownsRow_blk ho hb).1 (ownsRow_blk ho hb).2, fun k hk2 => (hn k hk2).keep hs fun b hb hl => hk b hb.1 hl⟩
theorem BrO.push {B : Nat} {W w' : World} {v s : Value} {bs : List BranchD} {b : BranchD} {nv : Nat → Value} {g' cap' : Nat}
    (hn : ∀ k, k < bs.length → NdU (fun b => B ≤ b ∧ v.ownBlock ≠ some b) W (nv k) (bs.getD k .zero).nodes) (hv : NdU (fun b => B ≤ b ∧ v.ownBlock ≠ some b) W s b.nodes)
    (ho : w'.ownsRow B 43 3 (.slice (some ⟨g', 0, none⟩) (bs.length + 1) cap') (bs.length + 1) (brC bs nv ++ br3 b s)) (hg : W.grownBy w' v.ownBlock) (hat : v.ownBlock = some g' ∨ W.heap.size ≤ g') :
    BrO B w' (.slice (some ⟨g', 0, none⟩) (bs.length + 1) cap') (bs ++ [b]) := by
  have key : ∀ s ns, NdU (fun b => B ≤ b ∧ v.ownBlock ≠ some b) W s ns → NdU (fun b => B ≤ b ∧ (Value.slice (some ⟨g', 0, none⟩) (bs.length + 1) cap').ownBlock ≠ some b) w' s ns := by
    intro s ns h
    have h4 : NdU (fun b => (B ≤ b ∧ v.ownBlock ≠ some b) ∧ b < W.heap.size) W s ns := h.mono fun b hb hl => ⟨hb, hl⟩
    have h5 := h4.keep hg.size (fun b hb hl => hg.block b hl (fun e => hb.1.2 e.symm))
    refine h5.mono fun b hb _ => ⟨hb.1.1, fun e => ?_⟩
    have e2 : g' = b := by simpa [Value.ownBlock] using e
    subst e2
    rcases hat with h | h
    · exact hb.1.2 h
    · have := hb.2; omega
  have hg1 : ∀ k, k < bs.length → (bs ++ [b]).getD k .zero = bs.getD k .zero := fun k hk => by simp [List.getD, List.getElem?_append_left hk]
  have hg2 : (bs ++ [b]).getD bs.length .zero = b := by simp [List.getD]
  refine ⟨fun k => if k < bs.length then nv k else s, ?_, fun k hk => ?_⟩
  · have : brC (bs ++ [b]) (fun k => if k < bs.length then nv k else s) = brC bs nv ++ br3 b s := by
      unfold brC
      rw [List.length_append, show [b].length = 1 from rfl, flat_succ]
      congr 1
      · exact flat_congr _ fun k hk => by rw [hg1 k hk]; simp only [if_pos hk]
      · rw [hg2]; simp
    rw [this, List.length_append]
    exact ho
  · by_cases e : k < bs.length
    · rw [hg1 k e]
      simp only [if_pos e]
      exact key _ _ (hn k e)
    · have e2 : k = bs.length := by simp at hk; omega
      subst e2
      rw [hg2]
      simp only [if_neg e]
      exact key _ _ hv
theorem RngU.at {U : Nat → Prop} {W : World} {v : Value} {rs : List (Int × Int)} {lo : Nat} (h : RngU U W v rs) (hU : ∀ b, U b → lo ≤ b) : RangesAt lo W v rs := by
  obtain ⟨ao, cap, rfl, h1, h2, h3⟩ := h
  refine ⟨ao, cap, rfl, Nat.le_trans h1 (maxLen_num h2), fun h0 => ?_⟩
  obtain ⟨b, rfl, hb, hl, hc⟩ := h3 h0
  exact ⟨b, 0, rfl, hU b hb, hl, fun i hi => ⟨by rw [Nat.zero_add]; exact hc _ _ (rgC_get rs i hi).1, by rw [Nat.zero_add]; exact hc _ _ (rgC_get rs i hi).2⟩⟩
theorem NdU.at {U : Nat → Prop} {W : World} {v : Value} {ns : List NodeD} {lo : Nat} (h : NdU U W v ns) (hU : ∀ b, U b → lo ≤ b) : NodesAt lo W v ns := by
  obtain ⟨b, cap, sv, rfl, h1, h2, hb, hl, hc, hr⟩ := h
  refine ⟨_, cap, rfl, Nat.le_trans h1 (maxLen_num h2), fun _ => ⟨b, 0, rfl, hU b hb, hl, fun i hi => ?_⟩⟩
  have hg := fun j (hj : j < 5) => ndC_get ns sv hi hj
  rw [Nat.zero_add]
  exact ⟨hc _ _ (hg 0 (by omega)), ⟨sv i, hc _ _ (hg 1 (by omega)), (hr i hi).at hU⟩, hc _ _ (hg 2 (by omega)), hc _ _ (hg 3 (by omega)), hc _ _ (hg 4 (by omega))⟩
theorem BrO.at {B lo : Nat} {W : World} {v : Value} {bs : List BranchD} (h : BrO B W v bs) (hlo : lo ≤ B) : BranchesAt lo W v bs := by
  obtain ⟨nv, ho, hn⟩ := h
  rcases ho.2 with ⟨rfl, h0⟩ | ⟨g, cap, cur, rfl, hg, hh, h1, h2, h3, h4⟩
  · have : bs = [] := List.eq_nil_of_length_eq_zero h0
    subst this
    exact BranchesAt.nil _ _
  · refine ⟨_, cap, rfl, Nat.le_trans h1 (maxLen_num h2), fun _ => ⟨g, 0, rfl, Nat.le_trans hlo hg, row_lt hh, fun i hi => ?_⟩⟩
    have hg := fun j (hj : j < 3) => (ho.cellAt (i * 3 + j) (by omega)).trans (brC_get bs nv hi hj)
    rw [Nat.zero_add]
    exact ⟨hg 0 (by omega), hg 1 (by omega), ⟨nv i, hg 2 (by omega), (hn i hi).at fun b hb => Nat.le_trans hlo hb.1⟩⟩
theorem infoBrP : (Tryz.prog.info? 43).map (fun i => (i.zero, i.size, i.bytes)) = some (some (.agg #[.bool false, .bool false, .slice none 0 0]), 3, 32) := by kernel_rfl
/-- A branch appended. -/
theorem wpList_branch {ops : Array Oper} {rest : List Oper} {o : Oper} {a : Act} {Q : Exit → Act → World → Prop} {W W0 : World} (hgd : o.guard = none) (s x : Operand)
    (ho : o.op = .call { callee := .builtin .append, args := #[s, x], argTypes := #[22, 22] }) (B : Nat) (v nv : Value) (bs : List BranchD) (b : BranchD) (hW : W = W0.alloc (.cells #[.bool b.bol, .bool b.eol, nv] 43)) (hs : a.eval s = v) (hF : BrO B W0 v bs)
    (H : Nat) (hH : W0.heap.size = H) (hx : a.eval x = .slice (some ⟨H, 0, none⟩) 1 1) (hv : NdU (fun b => B ≤ b ∧ v.ownBlock ≠ some b) W0 nv b.nodes) (hlen : bs.length ≤ 100000) (hB : B ≤ W0.heap.size)
    (h : ∀ g' cap' w', BrO B w' (.slice (some ⟨g', 0, none⟩) (bs.length + 1) cap') (bs ++ [b]) → W0.grownBy w' v.ownBlock → (v.ownBlock = some g' ∨ W0.heap.size ≤ g') → wpList Tryz.prog ops Q rest (a.put o.dst (.slice (some ⟨g', 0, none⟩) (bs.length + 1) cap')) w') :
    wpList Tryz.prog ops Q (o :: rest) a W := by
  obtain ⟨iN, hjN, hyN0, hyN1, hyN2⟩ := info_parts infoBrP
  obtain ⟨pv, hown, hp⟩ := hF
  refine wpList_append_szW hgd s x 22 ho W0 #[.bool b.bol, .bool b.eol, nv] 43 hW H hH B iN _ 3 32 Tryz.underlying22 hjN hyN0 hyN1 hyN2 rfl (by omega) v bs.length _ hs hown hx rfl ?_ (by omega) (by omega) hB ?_
  · intro u hu
    obtain ⟨b5, cap, sv, rfl, _⟩ := hv
    simp at hu
    rcases hu with rfl | rfl | rfl <;> rfl
  · intro g' cap' w' own4 grow4 at4
    exact h g' cap' w' (BrO.push hp hv own4 grow4 at4) grow4 at4
theorem gr_kinds {s g n g' : Nat} {l : List Tok} {ns : List NodeD} (h : Gr s g l n ns g') : ∀ x ∈ l, x.kind ≤ 4 := by
  induction h with
  | atom hk => intro x hx; simp at hx; subst hx; omega
  | grp ho _ hc ih =>
    intro x hx
    simp at hx
    rcases hx with rfl | hx | rfl
    · omega
    · exact ih x hx
    · omega
  | bare _ ih => exact ih
  | rep _ hr ih =>
    intro x hx
    simp at hx
    rcases hx with hx | rfl
    · exact ih x hx
    · omega
  | one _ ih => exact ih
  | more _ _ ih1 ih2 => intro x hx; rcases List.mem_append.1 hx with h | h; exact ih1 x h; exact ih2 x h
  | alt _ ih => exact ih
  | alts _ hb _ ih1 ih2 =>
    intro x hx
    simp at hx
    rcases hx with hx | rfl | hx
    · exact ih1 x hx
    · omega
    · exact ih2 x hx
end Go.Proofs.YtgbdlgogccgciaaGreatDoor
