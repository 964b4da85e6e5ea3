import Derived.Test.YtplhghhfdabccaaLoadQ
namespace Go.Proofs.Ytplhghhfdabccaa
open Go.RowKit
attribute [local go_sem ↓] Go.wp_at_zero Go.wp_at_succ

set_option maxRecDepth 100000 in
set_option maxHeartbeats 4000000 in
/-- The walk from where the counts, the length and the sum are right. -/
theorem specLoad_t (s : ByteArray) (w : World) (hs : s.size ≤ 1048576) (h268 : ¬(s.size : Int) < 268) (hmag : s.extract 0 4 = ⟨#[88, 68, 70, 49]⟩) (hn : btw (numN s 4) 1 4000 = true) (hw : btw (numN s 6) 1 256 = true) (hsl : ¬60000 < (numN s 8 : Int)) (HL : Hid ((s.size : Int) = 268 + 8 * numN s 4 + 4 * numN s 8)) (HS : Hid (sumF (s.extract 0 (s.size - 2)).data.toList = numN s (s.size - 2)))
    (Wd Cd : Int) (LL : Nat → List Int) (HR : Hid ((tabB (tabOf (numN s 6) (l3 s (numN s 4) (numN s 8) (numN s 8))) = true → Wd = numN s 6 ∧ Cd = 0 ∧ LL = l3 s (numN s 4) (numN s 8) (numN s 8)) ∧ (tabB (tabOf (numN s 6) (l3 s (numN s 4) (numN s 8) (numN s 8))) = false → Wd = 0 ∧ Cd = 6 ∧ LL = fun _ => []))) :
    Calls Try.prog 35 #[.string s] w fun e w' => LoadAns w Wd Cd LL e w' := by
  obtain ⟨i0, hi, hz0, hz1, hz2⟩ := info_parts Try.infoInt
  have h268' : 268 ≤ (s.size : Int) := by omega
  have c4 := fun w => l3Num_ok s 4 4 w rfl (by omega) hs
  have c6 := fun w => l3Num_ok s 6 6 w rfl (by omega) hs
  have c8 := fun w => l3Num_ok s 8 8 w rfl (by omega) hs
  have c2 := fun w => l3Num_ok s (s.size - 2) ((s.size : Int) - 2) w (by omega) (by omega) hs
  have q4 := numN_le s 4; have q6 := numN_le s 6; have q8 := numN_le s 8
  generalize numN s (s.size - 2) = zz at *
  generalize numN s 4 = n at *
  generalize numN s 6 = wd at *
  generalize numN s 8 = sl at *
  have hneq : ((s.size : Int) != 268 + 8 * (n : Int) + 4 * (sl : Int)) = false := by have := HL.out; simp; omega
  go_enter Try.func35, Try.ntmps35
  go_wp2_with fail
  refine (c4 _).mono ?_
  rintro e w1 ⟨rfl, n1, rfl⟩
  go_wp2_with fail
  refine (c6 _).mono ?_
  rintro e w1 ⟨rfl, n2, rfl⟩
  go_wp2_with fail
  refine (c8 _).mono ?_
  rintro e w1 ⟨rfl, n3, rfl⟩
  clear c4 c6 c8
  go_wp2_with (go_at_call 54; refine (between_ok _ _ _ _).mono ?_; rintro e w' ⟨rfl, rfl⟩)
  rw [Go.Lib.run_convert_string_bytes _ _ _ _ _ Try.underlying9 Try.underlying104 Try.underlying5]
  have hbw := bytesWorld_below ((w.alloc (.cells #[.slice none 0 0, .int .i64 0, .slice none 0 0, .slice none 0 0, .slice none 0 0, .slice none 0 0, .slice none 0 0, .slice none 0 0] 48)).drewN (n1 + n2 + n3)) 5 (s.extract 0 (s.size - 2))
  have hcell : Hid (∀ k, k < (s.extract 0 (s.size - 2)).data.toList.length → (Go.Lib.bytesWorld ((w.alloc (.cells #[.slice none 0 0, .int .i64 0, .slice none 0 0, .slice none 0 0, .slice none 0 0, .slice none 0 0, .slice none 0 0, .slice none 0 0] 48)).drewN (n1 + n2 + n3)) 5 (s.extract 0 (s.size - 2))).cell? ⟨w.heap.size + 1, k, none⟩ = some (.int .u8 (((s.extract 0 (s.size - 2)).data.toList.getD k 0).toNat : Int))) := by
    intro k hk
    have := Go.Lib.bytesWorld_cell ((w.alloc (.cells #[.slice none 0 0, .int .i64 0, .slice none 0 0, .slice none 0 0, .slice none 0 0, .slice none 0 0, .slice none 0 0, .slice none 0 0] 48)).drewN (n1 + n2 + n3)) 5 (s.extract 0 (s.size - 2)) k (by simpa using hk)
    simpa using this
  have res0 : (Go.Lib.bytesWorld ((w.alloc (.cells #[.slice none 0 0, .int .i64 0, .slice none 0 0, .slice none 0 0, .slice none 0 0, .slice none 0 0, .slice none 0 0, .slice none 0 0] 48)).drewN (n1 + n2 + n3)) 5 (s.extract 0 (s.size - 2))).heap[w.heap.size]? = some (.cells zeroA 48 (0, 0)) := by
    rw [Go.Lib.bytesWorld_at_old _ _ _ _ (by simp)]
    exact heap_alloc_new _ _
  have hW : Below w.heap.size w (Go.Lib.bytesWorld ((w.alloc (.cells #[.slice none 0 0, .int .i64 0, .slice none 0 0, .slice none 0 0, .slice none 0 0, .slice none 0 0, .slice none 0 0, .slice none 0 0] 48)).drewN (n1 + n2 + n3)) 5 (s.extract 0 (s.size - 2))) := below_step (below_drewN ((Below.refl _ _).alloc (Nat.le_refl _) _) _) (by simp) hbw
  have hsz5 : w.heap.size + 1 + 1 ≤ (Go.Lib.bytesWorld ((w.alloc (.cells #[.slice none 0 0, .int .i64 0, .slice none 0 0, .slice none 0 0, .slice none 0 0, .slice none 0 0, .slice none 0 0, .slice none 0 0] 48)).drewN (n1 + n2 + n3)) 5 (s.extract 0 (s.size - 2))).heap.size := by rw [Go.Lib.bytesWorld_size]; simp
  clear hbw
  generalize Go.Lib.bytesWorld ((w.alloc (.cells #[.slice none 0 0, .int .i64 0, .slice none 0 0, .slice none 0 0, .slice none 0 0, .slice none 0 0, .slice none 0 0, .slice none 0 0] 48)).drewN (n1 + n2 + n3)) 5 (s.extract 0 (s.size - 2)) = w5 at *
  generalize grownCap _ _ _ _ = cp
  have hS := l3Sum_len (w.heap.size + 1) cp (s.size - 2) (s.extract 0 (s.size - 2)).data.toList w5 (by simp) hcell.out (by simp; omega)
  rw [HS.out] at hS
  clear hcell HS
  go_wp2_with fail
  refine hS.mono ?_
  rintro e w6 ⟨rfl, rfl⟩
  clear hS
  go_wp2_with fail
  refine (c2 _).mono ?_
  rintro e w7 ⟨rfl, n4, hw7⟩
  have hW7 : Below w.heap.size w w7 := by rw [hw7]; exact below_drewN hW _
  have res7 : w7.heap[w.heap.size]? = some (.cells zeroA 48 (0, 0)) := by rw [hw7]; simpa using res0
  have hsz7 : w.heap.size + 1 + 1 ≤ w7.heap.size := by rw [hw7]; simpa using hsz5
  clear c2 hw7 hW res0 hsz5
  have hzz : ((zz : Int) != (zz : Int)) = false := by simp
  go_wp2
  have L0 : LoadSt w w7.heap.size wd (w7.alloc (.cells (rowA wd (fun _ => .slice none 0 0)) 48)) (fun _ => .slice none 0 0) (updL (fun _ => []) 0 (clsP s 0)) := by
    refine ⟨hW7.alloc hW7.size _, by omega, by simp, row_alloc res7, heap_alloc_new _ _, ?_⟩
    have : updL (fun _ => []) 0 (clsP s 0) = fun _ => [] := by funext j; simp [updL, clsP]
    rw [this]
    exact Fam.nil _ _ _
  generalize hgt : w7.heap.size = gt at *
  clear res7 hW7
  go_loopw [8] (fun i wr => ∃ k : Nat, k ≤ 256 ∧ i = .int .i64 k ∧ ∃ v, LoadSt w gt wd wr v (updL (fun _ => []) 0 (clsP s k)))
    (fun i _ => 256 - (intOf i).toNat)
  case atStart => exact ⟨0, by omega, rfl, _, L0⟩
  case round =>
    clear L0
    obtain ⟨k, hk, rfl, v, L⟩ := hrel
    by_cases hlt : k < 256
    · have hi0 : (0 : Int) ≤ 10 + (k : Int) := by omega
      have hi1 : 10 + (k : Int) < (s.size : Int) := by omega
      have hkk : (k : Int) < 256 := by omega
      obtain ⟨a0, a1, a2, a3, a4, a5, a6, a7⟩ := row_A L.row
      have hgl : gt < wr.heap.size := L.lt
      have hx : s[10 + k].toNat = byteN s (10 + k) := byteN_at (by omega)
      have hxl := byteN_lt s (10 + k)
      have hi2 : (10 + (k : Int)).toNat = 10 + k := by omega
      have hi3 : 10 + k < s.size := by omega
      have hwr : IntKind.i64.wrap (10 + (k : Int)) = 10 + (k : Int) := wrapS (by omega) (by omega)
      have hwb : IntKind.i64.wrap (byteN s (10 + k) : Int) = (byteN s (10 + k) : Int) := wrapS (by omega) (by omega)
      go_wp2
      go_region_law ((refine step_append_lies _ (by rfl) (.tmp 71) (.tmp 77) 33 (by rfl) (gt + 1) 3 i0 _ 1 8 Try.underlying33 hi hz0 hz1 hz2 rfl (by omega) (v 0) k ((clsP s k).map intV) (by rfl) (L.ownAt (by omega) (updL_same _ _ _) (clsP_len s k) (by first | exact ((Below.refl _ _).drew.alloc (Nat.le_refl _) _) | exact ((Below.refl _ _).alloc (Nat.le_refl _) _).drew)) ⟨wr.heap.size, 0, none⟩ 1 1 [.int .i64 (byteN s (10 + k) : Int)] (by rfl) rfl (one_new (by first | exact heap_alloc_new _ _ | exact row_drew (heap_alloc_new _ _))) (by intro u hu; simp at hu; subst hu; rfl) (by omega) (by unfold maxLen; omega) (by omega) (by have := L.lt; simp; omega) (wr.heap.size + 1) (by simp) ?_; intro g cap w9 own9 grow9 at9 lt9; obtain ⟨m9, f9⟩ := L.mid (by first | exact ((Below.refl _ _).drew.alloc (Nat.le_refl _) _) | exact ((Below.refl _ _).alloc (Nat.le_refl _) _).drew) (i := 0) (by omega) grow9; have c9 : w9.cell? ⟨gt, 0, none⟩ = some (v 0) := m9 0; have g9 := f9 0; clear m9 f9))
      all_goals
        have LN := L.push' (by first | exact ((Below.refl _ _).drew.alloc (Nat.le_refl _) _) | exact ((Below.refl _ _).alloc (Nat.le_refl _) _).drew) (i := 0) (off := 0) (by omega) rfl (updL_same _ _ _) (clsP_len s k) own9 grow9 (by simpa using at9)
        rw [updL_updL, ← clsP_succ] at LN
        go_wp2
        go_roundw
        case rel => exact ⟨k + 1, by omega, by go_num, _, LN⟩
        case measure => simp [intOf]; omega
    · have hk6 : k = 256 := by omega
      rw [hk6, l2_zero] at L
      clear hk6
      have hnn := btw_iff.1 hn
      go_wp2
      go_loopw [9] (fun i wr => ∃ j : Nat, j ≤ n ∧ i = .int .i64 j ∧ ∃ v, LoadSt w gt wd wr v (l2 s j j j j))
        (fun i _ => n - (intOf i).toNat)
      case atStart => exact ⟨0, by omega, rfl, _, L⟩
      case round =>
        clear L
        obtain ⟨j, hj, rfl, v, L⟩ := hrel
        by_cases hlt2 : j < n
        · have HLn : 268 + 8 * (n : Int) ≤ (s.size : Int) := by have := HL.out; omega
          have hj2 : (j : Int) < (n : Int) := by omega
          have hgl : gt < wr.heap.size := L.lt
          obtain ⟨a0, a1, a2, a3, a4, a5, a6, a7⟩ := row_A L.row
          go_upto_region 23 with fail
          go_cut [] from 80 to 122 (fun wx => ∃ v', LoadSt w gt wd wx v' (l2 s (j + 1) j j j))
          case first =>
            have cN := fun w => l3Num_ok s (266 + 8 * j) (266 + 8 * (j : Int)) w (by omega) (by omega) hs
            generalize hNv : numN s (266 + 8 * j) = xv at *
            go_region_law ((first | (refine step_go2 (by rfl) 77 (.tmp 90) (.tmp 91) #[9, 3] (by rfl) (.string s) (.int .i64 (266 + 8 * (j : Int))) (by rfl) (by rfl) (.int .i64 (xv : Int)) _ (enterNum _ _) (cN _) ?_; rintro wq ⟨nq, hwq⟩; have hbq : Below wr.heap.size wr wq := (by rw [hwq]; first | exact below_drewN (Below.refl _ _) _ | exact below_drewN (Below.refl _ _).drew _); have hcq := fun o => hbq.cell (p := ⟨gt, o, none⟩) hgl; have hgq : gt < wq.heap.size := Nat.lt_of_lt_of_le hgl hbq.size; have d2 : wq.cell? ⟨gt, 2, none⟩ = some (v 1) := (hcq 2).trans a2; clear hwq hcq) | (refine step_append_lies _ (by rfl) (.tmp 89) (.tmp 93) 33 (by rfl) (gt + 1) 3 i0 _ 1 8 Try.underlying33 hi hz0 hz1 hz2 rfl (by omega) (v 1) j ((numP s 266 8 j).map intV) (by rfl) (L.ownAt (i := 1) (xs := numP s 266 8 j) (by omega) rfl (numP_len s 266 8 j) (by first | exact ((Below.refl _ _).drew.alloc (Nat.le_refl _) _) | exact ((Below.refl _ _).alloc (Nat.le_refl _) _).drew | exact (hbq.alloc hbq.size _) | exact (hbq.alloc hbq.size _).drew)) ⟨wq.heap.size, 0, none⟩ 1 1 [.int .i64 (xv : Int)] (by rfl) rfl (one_new (by first | exact heap_alloc_new _ _ | exact row_drew (heap_alloc_new _ _))) (by intro u hu; simp at hu; subst hu; rfl) (by omega) (by unfold maxLen; omega) (by omega) (by simp; omega) (wq.heap.size + 1) (by simp) ?_; intro g cap w9 own9 grow9 at9 lt9; obtain ⟨m9, f9⟩ := L.mid (by first | exact ((Below.refl _ _).drew.alloc (Nat.le_refl _) _) | exact ((Below.refl _ _).alloc (Nat.le_refl _) _).drew | exact (hbq.alloc hbq.size _) | exact (hbq.alloc hbq.size _).drew) (i := 1) (by omega) grow9; have c9 : w9.cell? ⟨gt, 2, none⟩ = some (v 1) := m9 2; have g9 := f9 2; clear m9 f9)))
            all_goals
              have LN := L.push' (by first | exact ((Below.refl _ _).drew.alloc (Nat.le_refl _) _) | exact ((Below.refl _ _).alloc (Nat.le_refl _) _).drew | exact (hbq.alloc hbq.size _) | exact (hbq.alloc hbq.size _).drew) (i := 1) (off := 2) (by omega) rfl (show l2 s j j j j 1 = numP s 266 8 j from rfl) (numP_len s 266 8 j) own9 grow9 (by simpa using at9)
              rw [← hNv, l2_one] at LN
              go_wp2
              go_meet
              exact ⟨_, LN⟩
          case rest =>
            obtain ⟨v1, L1⟩ := hcut
            clear a0 a1 a2 a3 a4 a5 a6 a7 hgl L
            have hgl : gt < wc.heap.size := L1.lt
            obtain ⟨a0, a1, a2, a3, a4, a5, a6, a7⟩ := row_A L1.row
            have hwr : IntKind.i64.wrap (266 + 8 * (j : Int) + 2) = 266 + 8 * (j : Int) + 2 := wrapS (by omega) (by omega)
            go_upto_region 24 with fail
            go_cut [] from 80 to 122 (fun wx => ∃ v', LoadSt w gt wd wx v' (l2 s (j + 1) (j + 1) j j))
            case first =>
              have cN := fun w => l3Num_ok s (268 + 8 * j) (266 + 8 * (j : Int) + 2) w (by omega) (by omega) hs
              generalize hNv : numN s (268 + 8 * j) = xv at *
              go_region_law ((first | (refine step_go2 (by rfl) 77 (.tmp 98) (.tmp 100) #[9, 3] (by rfl) (.string s) (.int .i64 (266 + 8 * (j : Int) + 2)) (by rfl) (by rfl) (.int .i64 (xv : Int)) _ (enterNum _ _) (cN _) ?_; rintro wq ⟨nq, hwq⟩; have hbq : Below wc.heap.size wc wq := (by rw [hwq]; first | exact below_drewN (Below.refl _ _) _ | exact below_drewN (Below.refl _ _).drew _); have hcq := fun o => hbq.cell (p := ⟨gt, o, none⟩) hgl; have hgq : gt < wq.heap.size := Nat.lt_of_lt_of_le hgl hbq.size; have d2 : wq.cell? ⟨gt, 3, none⟩ = some (v1 2) := (hcq 3).trans a3; clear hwq hcq) | (refine step_append_lies _ (by rfl) (.tmp 97) (.tmp 102) 33 (by rfl) (gt + 1) 3 i0 _ 1 8 Try.underlying33 hi hz0 hz1 hz2 rfl (by omega) (v1 2) j ((numP s 268 8 j).map intV) (by rfl) (L1.ownAt (i := 2) (xs := numP s 268 8 j) (by omega) rfl (numP_len s 268 8 j) (by first | exact ((Below.refl _ _).drew.alloc (Nat.le_refl _) _) | exact ((Below.refl _ _).alloc (Nat.le_refl _) _).drew | exact (hbq.alloc hbq.size _) | exact (hbq.alloc hbq.size _).drew)) ⟨wq.heap.size, 0, none⟩ 1 1 [.int .i64 (xv : Int)] (by rfl) rfl (one_new (by first | exact heap_alloc_new _ _ | exact row_drew (heap_alloc_new _ _))) (by intro u hu; simp at hu; subst hu; rfl) (by omega) (by unfold maxLen; omega) (by omega) (by simp; omega) (wq.heap.size + 1) (by simp) ?_; intro g cap w9 own9 grow9 at9 lt9; obtain ⟨m9, f9⟩ := L1.mid (by first | exact ((Below.refl _ _).drew.alloc (Nat.le_refl _) _) | exact ((Below.refl _ _).alloc (Nat.le_refl _) _).drew | exact (hbq.alloc hbq.size _) | exact (hbq.alloc hbq.size _).drew) (i := 2) (by omega) grow9; have c9 : w9.cell? ⟨gt, 3, none⟩ = some (v1 2) := m9 3; have g9 := f9 3; clear m9 f9)))
              all_goals
                have LN := L1.push' (by first | exact ((Below.refl _ _).drew.alloc (Nat.le_refl _) _) | exact ((Below.refl _ _).alloc (Nat.le_refl _) _).drew | exact (hbq.alloc hbq.size _) | exact (hbq.alloc hbq.size _).drew) (i := 2) (off := 3) (by omega) rfl (show l2 s (j + 1) j j j 2 = numP s 268 8 j from rfl) (numP_len s 268 8 j) own9 grow9 (by simpa using at9)
                rw [← hNv, l2_two] at LN
                go_wp2
                go_meet
                exact ⟨_, LN⟩
            case rest =>
              obtain ⟨v2, L2⟩ := hcut
              clear a0 a1 a2 a3 a4 a5 a6 a7 hgl L1 hwr
              have hgl : gt < wc.heap.size := L2.lt
              obtain ⟨a0, a1, a2, a3, a4, a5, a6, a7⟩ := row_A L2.row
              have hwr : IntKind.i64.wrap (266 + 8 * (j : Int) + 4) = 266 + 8 * (j : Int) + 4 := wrapS (by omega) (by omega)
              go_upto_region 25 with fail
              go_cut [] from 80 to 122 (fun wx => ∃ v', LoadSt w gt wd wx v' (l2 s (j + 1) (j + 1) (j + 1) j))
              case first =>
                have cN := fun w => l3Opt_ok s (270 + 8 * j) (266 + 8 * (j : Int) + 4) w (by omega) (by omega) hs
                generalize hNv : optN s (270 + 8 * j) = xv at *
                go_region_law ((first | (refine step_go2 (by rfl) 79 (.tmp 107) (.tmp 109) #[9, 3] (by rfl) (.string s) (.int .i64 (266 + 8 * (j : Int) + 4)) (by rfl) (by rfl) (.int .i64 xv) _ (enterOpt _ _) (cN _) ?_; rintro wq ⟨nq, hwq⟩; have hbq : Below wc.heap.size wc wq := (by rw [hwq]; first | exact below_drewN (Below.refl _ _) _ | exact below_drewN (Below.refl _ _).drew _); have hcq := fun o => hbq.cell (p := ⟨gt, o, none⟩) hgl; have hgq : gt < wq.heap.size := Nat.lt_of_lt_of_le hgl hbq.size; have d2 : wq.cell? ⟨gt, 4, none⟩ = some (v2 3) := (hcq 4).trans a4; clear hwq hcq) | (refine step_append_lies _ (by rfl) (.tmp 106) (.tmp 111) 33 (by rfl) (gt + 1) 3 i0 _ 1 8 Try.underlying33 hi hz0 hz1 hz2 rfl (by omega) (v2 3) j ((optP s 270 8 j).map intV) (by rfl) (L2.ownAt (i := 3) (xs := optP s 270 8 j) (by omega) rfl (optP_len s 270 8 j) (by first | exact ((Below.refl _ _).drew.alloc (Nat.le_refl _) _) | exact ((Below.refl _ _).alloc (Nat.le_refl _) _).drew | exact (hbq.alloc hbq.size _) | exact (hbq.alloc hbq.size _).drew)) ⟨wq.heap.size, 0, none⟩ 1 1 [.int .i64 xv] (by rfl) rfl (one_new (by first | exact heap_alloc_new _ _ | exact row_drew (heap_alloc_new _ _))) (by intro u hu; simp at hu; subst hu; rfl) (by omega) (by unfold maxLen; omega) (by omega) (by simp; omega) (wq.heap.size + 1) (by simp) ?_; intro g cap w9 own9 grow9 at9 lt9; obtain ⟨m9, f9⟩ := L2.mid (by first | exact ((Below.refl _ _).drew.alloc (Nat.le_refl _) _) | exact ((Below.refl _ _).alloc (Nat.le_refl _) _).drew | exact (hbq.alloc hbq.size _) | exact (hbq.alloc hbq.size _).drew) (i := 3) (by omega) grow9; have c9 : w9.cell? ⟨gt, 4, none⟩ = some (v2 3) := m9 4; have g9 := f9 4; clear m9 f9)))
                all_goals
                  have LN := L2.push' (by first | exact ((Below.refl _ _).drew.alloc (Nat.le_refl _) _) | exact ((Below.refl _ _).alloc (Nat.le_refl _) _).drew | exact (hbq.alloc hbq.size _) | exact (hbq.alloc hbq.size _).drew) (i := 3) (off := 4) (by omega) rfl (show l2 s (j + 1) (j + 1) j j 3 = optP s 270 8 j from rfl) (optP_len s 270 8 j) own9 grow9 (by simpa using at9)
                  rw [← hNv, l2_three] at LN
                  go_wp2
                  go_meet
                  exact ⟨_, LN⟩
              case rest =>
                obtain ⟨v3, L3⟩ := hcut
                clear a0 a1 a2 a3 a4 a5 a6 a7 hgl L2 hwr
                have hgl : gt < wc.heap.size := L3.lt
                obtain ⟨a0, a1, a2, a3, a4, a5, a6, a7⟩ := row_A L3.row
                have hwr : IntKind.i64.wrap (266 + 8 * (j : Int) + 6) = 266 + 8 * (j : Int) + 6 := wrapS (by omega) (by omega)
                go_wp2
                have cN := fun w => l3Opt_ok s (272 + 8 * j) (266 + 8 * (j : Int) + 6) w (by omega) (by omega) hs
                generalize hNv : optN s (272 + 8 * j) = xv at *
                go_region_law ((first | (refine step_go2 (by rfl) 79 (.tmp 116) (.tmp 118) #[9, 3] (by rfl) (.string s) (.int .i64 (266 + 8 * (j : Int) + 6)) (by rfl) (by rfl) (.int .i64 xv) _ (enterOpt _ _) (cN _) ?_; rintro wq ⟨nq, hwq⟩; have hbq : Below wc.heap.size wc wq := (by rw [hwq]; first | exact below_drewN (Below.refl _ _) _ | exact below_drewN (Below.refl _ _).drew _); have hcq := fun o => hbq.cell (p := ⟨gt, o, none⟩) hgl; have hgq : gt < wq.heap.size := Nat.lt_of_lt_of_le hgl hbq.size; have d2 : wq.cell? ⟨gt, 5, none⟩ = some (v3 4) := (hcq 5).trans a5; clear hwq hcq) | (refine step_append_lies _ (by rfl) (.tmp 115) (.tmp 120) 33 (by rfl) (gt + 1) 3 i0 _ 1 8 Try.underlying33 hi hz0 hz1 hz2 rfl (by omega) (v3 4) j ((optP s 272 8 j).map intV) (by rfl) (L3.ownAt (i := 4) (xs := optP s 272 8 j) (by omega) rfl (optP_len s 272 8 j) (by first | exact ((Below.refl _ _).drew.alloc (Nat.le_refl _) _) | exact ((Below.refl _ _).alloc (Nat.le_refl _) _).drew | exact (hbq.alloc hbq.size _) | exact (hbq.alloc hbq.size _).drew)) ⟨wq.heap.size, 0, none⟩ 1 1 [.int .i64 xv] (by rfl) rfl (one_new (by first | exact heap_alloc_new _ _ | exact row_drew (heap_alloc_new _ _))) (by intro u hu; simp at hu; subst hu; rfl) (by omega) (by unfold maxLen; omega) (by omega) (by simp; omega) (wq.heap.size + 1) (by simp) ?_; intro g cap w9 own9 grow9 at9 lt9; obtain ⟨m9, f9⟩ := L3.mid (by first | exact ((Below.refl _ _).drew.alloc (Nat.le_refl _) _) | exact ((Below.refl _ _).alloc (Nat.le_refl _) _).drew | exact (hbq.alloc hbq.size _) | exact (hbq.alloc hbq.size _).drew) (i := 4) (by omega) grow9; have c9 : w9.cell? ⟨gt, 5, none⟩ = some (v3 4) := m9 5; have g9 := f9 5; clear m9 f9)))
                all_goals
                  have LN := L3.push' (by first | exact ((Below.refl _ _).drew.alloc (Nat.le_refl _) _) | exact ((Below.refl _ _).alloc (Nat.le_refl _) _).drew | exact (hbq.alloc hbq.size _) | exact (hbq.alloc hbq.size _).drew) (i := 4) (off := 5) (by omega) rfl (show l2 s (j + 1) (j + 1) (j + 1) j 4 = optP s 272 8 j from rfl) (optP_len s 272 8 j) own9 grow9 (by simpa using at9)
                  rw [← hNv, l2_four] at LN
                  go_wp2
                  go_roundw
                  case rel =>
                    first | exact ⟨j + 1, by omega, by go_num, _, LN⟩ | ((repeat apply Exists.intro); exact ⟨⟨j + 1, by omega, by go_num, _, LN⟩, rfl⟩)
                  case measure => simp [intOf]; omega
        · have hjn : j = n := by omega
          rw [hjn, l3_zero] at L
          clear hjn
          go_wp2
          go_loopw [11] (fun i wr => ∃ m : Nat, m ≤ sl ∧ i = .int .i64 m ∧ ∃ v, LoadSt w gt wd wr v (l3 s n m m))
            (fun i _ => sl - (intOf i).toNat)
          case atStart => exact ⟨0, by omega, rfl, _, L⟩
          case round =>
            clear L
            obtain ⟨m, hm, rfl, v, L⟩ := hrel
            by_cases hlt3 : m < sl
            · have HLs : 268 + 8 * (n : Int) + 4 * (sl : Int) ≤ (s.size : Int) := by have := HL.out; omega
              have hm2 : (m : Int) < (sl : Int) := by omega
              have hgl : gt < wr.heap.size := L.lt
              obtain ⟨a0, a1, a2, a3, a4, a5, a6, a7⟩ := row_A L.row
              go_upto_region 31 with fail
              go_cut [] from 123 to 150 (fun wx => ∃ v', LoadSt w gt wd wx v' (l3 s n (m + 1) m))
              case first =>
                have cN := fun w => l3Num_ok s (266 + 8 * n + 4 * m) (266 + 8 * (n : Int) + 4 * (m : Int)) w (by omega) (by omega) hs
                generalize hNv : numN s (266 + 8 * n + 4 * m) = xv at *
                go_region_law ((first | (refine step_go2 (by rfl) 77 (.tmp 136) (.tmp 137) #[9, 3] (by rfl) (.string s) (.int .i64 (266 + 8 * (n : Int) + 4 * (m : Int))) (by rfl) (by rfl) (.int .i64 (xv : Int)) _ (enterNum _ _) (cN _) ?_; rintro wq ⟨nq, hwq⟩; have hbq : Below wr.heap.size wr wq := (by rw [hwq]; first | exact below_drewN (Below.refl _ _) _ | exact below_drewN (Below.refl _ _).drew _); have hcq := fun o => hbq.cell (p := ⟨gt, o, none⟩) hgl; have hgq : gt < wq.heap.size := Nat.lt_of_lt_of_le hgl hbq.size; have d2 : wq.cell? ⟨gt, 6, none⟩ = some (v 5) := (hcq 6).trans a6; clear hwq hcq) | (refine step_append_lies _ (by rfl) (.tmp 135) (.tmp 139) 33 (by rfl) (gt + 1) 3 i0 _ 1 8 Try.underlying33 hi hz0 hz1 hz2 rfl (by omega) (v 5) m ((numP s (266 + 8 * n) 4 m).map intV) (by rfl) (L.ownAt (i := 5) (xs := numP s (266 + 8 * n) 4 m) (by omega) rfl (numP_len s (266 + 8 * n) 4 m) (by first | exact ((Below.refl _ _).drew.alloc (Nat.le_refl _) _) | exact ((Below.refl _ _).alloc (Nat.le_refl _) _).drew | exact (hbq.alloc hbq.size _) | exact (hbq.alloc hbq.size _).drew)) ⟨wq.heap.size, 0, none⟩ 1 1 [.int .i64 (xv : Int)] (by rfl) rfl (one_new (by first | exact heap_alloc_new _ _ | exact row_drew (heap_alloc_new _ _))) (by intro u hu; simp at hu; subst hu; rfl) (by omega) (by unfold maxLen; omega) (by omega) (by simp; omega) (wq.heap.size + 1) (by simp) ?_; intro g cap w9 own9 grow9 at9 lt9; obtain ⟨m9, f9⟩ := L.mid (by first | exact ((Below.refl _ _).drew.alloc (Nat.le_refl _) _) | exact ((Below.refl _ _).alloc (Nat.le_refl _) _).drew | exact (hbq.alloc hbq.size _) | exact (hbq.alloc hbq.size _).drew) (i := 5) (by omega) grow9; have c9 : w9.cell? ⟨gt, 6, none⟩ = some (v 5) := m9 6; have g9 := f9 6; clear m9 f9)))
                all_goals
                  have LN := L.push' (by first | exact ((Below.refl _ _).drew.alloc (Nat.le_refl _) _) | exact ((Below.refl _ _).alloc (Nat.le_refl _) _).drew | exact (hbq.alloc hbq.size _) | exact (hbq.alloc hbq.size _).drew) (i := 5) (off := 6) (by omega) rfl (show l3 s n m m 5 = numP s (266 + 8 * n) 4 m from rfl) (numP_len s (266 + 8 * n) 4 m) own9 grow9 (by simpa using at9)
                  rw [← hNv, l3_one] at LN
                  go_wp2
                  go_meet
                  exact ⟨_, LN⟩
              case rest =>
                obtain ⟨v1, L1⟩ := hcut
                clear a0 a1 a2 a3 a4 a5 a6 a7 hgl L
                have hgl : gt < wc.heap.size := L1.lt
                obtain ⟨a0, a1, a2, a3, a4, a5, a6, a7⟩ := row_A L1.row
                have hwr : IntKind.i64.wrap (266 + 8 * (n : Int) + 4 * (m : Int) + 2) = 266 + 8 * (n : Int) + 4 * (m : Int) + 2 := wrapS (by omega) (by omega)
                go_wp2
                have cN := fun w => l3Opt_ok s (268 + 8 * n + 4 * m) (266 + 8 * (n : Int) + 4 * (m : Int) + 2) w (by omega) (by omega) hs
                generalize hNv : optN s (268 + 8 * n + 4 * m) = xv at *
                go_region_law ((first | (refine step_go2 (by rfl) 79 (.tmp 144) (.tmp 146) #[9, 3] (by rfl) (.string s) (.int .i64 (266 + 8 * (n : Int) + 4 * (m : Int) + 2)) (by rfl) (by rfl) (.int .i64 xv) _ (enterOpt _ _) (cN _) ?_; rintro wq ⟨nq, hwq⟩; have hbq : Below wc.heap.size wc wq := (by rw [hwq]; first | exact below_drewN (Below.refl _ _) _ | exact below_drewN (Below.refl _ _).drew _); have hcq := fun o => hbq.cell (p := ⟨gt, o, none⟩) hgl; have hgq : gt < wq.heap.size := Nat.lt_of_lt_of_le hgl hbq.size; have d2 : wq.cell? ⟨gt, 7, none⟩ = some (v1 6) := (hcq 7).trans a7; clear hwq hcq) | (refine step_append_lies _ (by rfl) (.tmp 143) (.tmp 148) 33 (by rfl) (gt + 1) 3 i0 _ 1 8 Try.underlying33 hi hz0 hz1 hz2 rfl (by omega) (v1 6) m ((optP s (268 + 8 * n) 4 m).map intV) (by rfl) (L1.ownAt (i := 6) (xs := optP s (268 + 8 * n) 4 m) (by omega) rfl (optP_len s (268 + 8 * n) 4 m) (by first | exact ((Below.refl _ _).drew.alloc (Nat.le_refl _) _) | exact ((Below.refl _ _).alloc (Nat.le_refl _) _).drew | exact (hbq.alloc hbq.size _) | exact (hbq.alloc hbq.size _).drew)) ⟨wq.heap.size, 0, none⟩ 1 1 [.int .i64 xv] (by rfl) rfl (one_new (by first | exact heap_alloc_new _ _ | exact row_drew (heap_alloc_new _ _))) (by intro u hu; simp at hu; subst hu; rfl) (by omega) (by unfold maxLen; omega) (by omega) (by simp; omega) (wq.heap.size + 1) (by simp) ?_; intro g cap w9 own9 grow9 at9 lt9; obtain ⟨m9, f9⟩ := L1.mid (by first | exact ((Below.refl _ _).drew.alloc (Nat.le_refl _) _) | exact ((Below.refl _ _).alloc (Nat.le_refl _) _).drew | exact (hbq.alloc hbq.size _) | exact (hbq.alloc hbq.size _).drew) (i := 6) (by omega) grow9; have c9 : w9.cell? ⟨gt, 7, none⟩ = some (v1 6) := m9 7; have g9 := f9 7; clear m9 f9)))
                all_goals
                  have LN := L1.push' (by first | exact ((Below.refl _ _).drew.alloc (Nat.le_refl _) _) | exact ((Below.refl _ _).alloc (Nat.le_refl _) _).drew | exact (hbq.alloc hbq.size _) | exact (hbq.alloc hbq.size _).drew) (i := 6) (off := 7) (by omega) rfl (show l3 s n (m + 1) m 6 = optP s (268 + 8 * n) 4 m from rfl) (optP_len s (268 + 8 * n) 4 m) own9 grow9 (by simpa using at9)
                  rw [← hNv, l3_two] at LN
                  go_wp2
                  go_roundw
                  case rel =>
                    first | exact ⟨m + 1, by omega, by go_num, _, LN⟩ | ((repeat apply Exists.intro); exact ⟨⟨m + 1, by omega, by go_num, _, LN⟩, rfl⟩)
                  case measure => simp [intOf]; omega
            · have hms : m = sl := by omega
              rw [hms] at L
              clear hms
              have hsl2 : sl ≤ 60000 := by omega
              have T := L.tab (l3_len s n sl (by omega) hsl2)
              obtain ⟨b0, p0, e0, -⟩ := T.classes
              obtain ⟨b1, p1, e1, -⟩ := T.base
              obtain ⟨b2, p2, e2, -⟩ := T.dflt
              obtain ⟨b3, p3, e3, -⟩ := T.tag
              obtain ⟨b4, p4, e4, -⟩ := T.fin
              obtain ⟨b5, p5, e5, -⟩ := T.next
              obtain ⟨b6, p6, e6, -⟩ := T.chk
              have hrow := L.row
              have hres := L.res
              unfold rowA at hrow
              unfold zeroA at hres
              rw [e0, e1, e2, e3, e4, e5, e6] at hrow T
              obtain ⟨x0, x1, x2, x3, x4, x5, x6, x7⟩ := row_eight hrow
              have E : Hid (rowA wd v = #[.slice b0 (tabOf wd (l3 s n sl sl)).classes.length p0, .int .i64 wd, .slice b1 (tabOf wd (l3 s n sl sl)).base.length p1, .slice b2 (tabOf wd (l3 s n sl sl)).dflt.length p2, .slice b3 (tabOf wd (l3 s n sl sl)).tag.length p3, .slice b4 (tabOf wd (l3 s n sl sl)).fin.length p4, .slice b5 (tabOf wd (l3 s n sl sl)).next.length p5, .slice b6 (tabOf wd (l3 s n sl sl)).chk.length p6]) := by show _ = _; unfold rowA; rw [e0, e1, e2, e3, e4, e5, e6]
              clear e0 e1 e2 e3 e4 e5 e6
              go_wp2_with fail
              refine (specTableOK_ok _ _ _ _ _ _ _ (tabOf wd (l3 s n sl sl)) _ T).mono ?_
              rintro e w8 ⟨rfl, hb8⟩
              have hF := L.fam.below hb8
              have hbl := below_step L.below L.below.size hb8
              have hov := L.over
              have hrow8 := row_below hrow hb8
              have hres8 := row_below hres hb8
              have fr : ∀ o, w8.frozen? ⟨w.heap.size, o, none⟩ = false := fun _ => frozen_of_row _ _ _ _ _ hres8
              clear x0 x1 x2 x3 x4 x5 x6 x7 L T hb8 hrow hres
              obtain ⟨x0, x1, x2, x3, x4, x5, x6, x7⟩ := row_eight hrow8
              obtain ⟨y0, y1, y2, y3, y4, y5, y6, y7⟩ := row_eight hres8
              clear hrow8 hres8
              have HR2 := HR.out
              generalize tabB (tabOf wd (l3 s n sl sl)) = tb at *
              cases tb
              · obtain ⟨hW, hC, hLL⟩ := HR2.2 rfl
                have HX : Hid (Wd = 0 ∧ Cd = 6 ∧ LL = fun _ => []) := ⟨hW, hC, hLL⟩
                clear hW hC hLL HR2 HR
                go_wp2
                refine bodyPost_ret (v := .tuple #[.agg #[.slice none 0 0, .int .i64 0, .slice none 0 0, .slice none 0 0, .slice none 0 0, .slice none 0 0, .slice none 0 0, .slice none 0 0], .int .i64 6]) (by simp [results, Try.results35, go_sem, y0, y1, y2, y3, y4, y5, y6, y7]) rfl ?_
                obtain ⟨rfl, rfl, rfl⟩ := HX.out
                exact ⟨gt, fun _ => .slice none 0 0, rfl, Nat.le_of_lt hov, Fam.nil _ _ _, below_set8 hbl (Nat.le_refl _) _ _ _ _ _ _ _ _⟩
              · obtain ⟨hW, hC, hLL⟩ := HR2.1 rfl
                have HX : Hid (Wd = wd ∧ Cd = 0 ∧ LL = l3 s n sl sl) := ⟨hW, hC, hLL⟩
                clear hW hC hLL HR2 HR
                go_wp2
                refine bodyPost_ret (v := .tuple #[.agg (rowA wd v), .int .i64 0]) (by rw [E.out]; simp [results, Try.results35, go_sem, y0, y1, y2, y3, y4, y5, y6, y7]) rfl ?_
                obtain ⟨rfl, rfl, rfl⟩ := HX.out
                exact ⟨gt, v, rfl, Nat.le_of_lt hov, Fam.set8 hF (Nat.le_of_lt hov) _ _ _ _ _ _ _ _, below_set8 hbl (Nat.le_refl _) _ _ _ _ _ _ _ _⟩
end Go.Proofs.Ytplhghhfdabccaa
