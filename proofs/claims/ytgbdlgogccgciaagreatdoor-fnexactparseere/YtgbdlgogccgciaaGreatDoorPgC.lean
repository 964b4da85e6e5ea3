import Derived.Test.YtgbdlgogccgciaaGreatDoorPfDPgAPgB
namespace Go.Proofs.YtgbdlgogccgciaaGreatDoor
open Go.RowKit
attribute [local go_sem ↓] Go.wp_at_zero Go.wp_at_succ

/- THE CODE's TOKENS: one byte each. -/
/-- The value of a token: its set lies in blocks from B on. -/
def TokV (B : Nat) (W : World) (x : Tok) (v : Value) : Prop := ∃ ao n cap, v = .agg #[.int .i64 (x.kind : Int), .int .i64 (x.pos : Int), .slice ao n cap, .int .i64 x.mn, .int .i64 x.mx] ∧ (x.kind = 0 → RngO B W (.slice ao n cap) (rngF x.set 256)) ∧ (x.kind ≠ 0 → (Value.slice ao n cap) = .slice none 0 0)
theorem TokV.bare {B : Nat} {W : World} {x : Tok} {v : Value} (hk : x.kind ≠ 0) (hv : v = .agg #[.int .i64 (x.kind : Int), .int .i64 (x.pos : Int), .slice none 0 0, .int .i64 x.mn, .int .i64 x.mx]) : TokV B W x v := ⟨none, 0, 0, hv, fun h => absurd h hk, fun _ => rfl⟩
theorem RngO.form {B : Nat} {W : World} {v : Value} {rs : List (Int × Int)} (h : RngO B W v rs) : ∃ ao n cap, v = .slice ao n cap := by
  rcases h.2 with ⟨h, _⟩ | ⟨g, cap, _, h, _⟩
  · exact ⟨_, _, _, h⟩
  · exact ⟨_, _, _, h⟩
theorem RngO.below {B : Nat} {W W' : World} {v : Value} {rs : List (Int × Int)} (h : RngO B W v rs) (hb : Below W.heap.size W W') : RngO B W' v rs := ownsRow_below h hb
theorem rngF_congr {f g : Nat → Bool} (h : ∀ c, c < 256 → f c = g c) : ∀ c, c ≤ 256 → rngF f c = rngF g c
  | 0, _ => rfl
  | c + 1, hc => by
    show rngStep f (rngF f c) c = rngStep g (rngF g c) c
    rw [rngF_congr h c (by omega)]
    unfold rngStep
    rw [h c (by omega)]
    by_cases h0 : 0 < c
    · rw [h (c - 1) (by omega)]
    · have : ¬0 < c := h0
      simp [this]
set_option maxRecDepth 100000 in
set_option maxHeartbeats 1000000 in
theorem atom_ok (a : Int) (f : Nat → Bool) (w : World) :
    Calls Tryz.prog 66 #[.int .i64 a, .agg (marksArr f)] w fun e w' => ∃ ao n cap, e = .returned (.agg #[.int .i64 0, .int .i64 a, .slice ao n cap, .int .i64 0, .int .i64 0]) ∧ RngO w.heap.size w' (.slice ao n cap) (rngF f 256) ∧ Below w.heap.size w w' := by
  have hzi : Hid _ := (zero_of_info Tryz.zeroMarks).2
  go_enter Tryz.func66, Tryz.ntmps66
  obtain ⟨W1, hW1⟩ : ∃ W1, W1 = (w.alloc (.cells (marksArr f) 141)).alloc (.cells #[.int .i64 0, .int .i64 0, .slice none 0 0, .int .i64 0, .int .i64 0] 105) := ⟨_, rfl⟩
  have hP : W1.heap[w.heap.size + 1]? = some (.cells #[.int .i64 0, .int .i64 0, .slice none 0 0, .int .i64 0, .int .i64 0] 105 (0, 0)) := by rw [hW1]; exact heap_alloc2_new _ _ _
  have hb1 : Below w.heap.size w W1 := by rw [hW1]; exact ((Below.refl _ _).alloc (Nat.le_refl _) _).alloc (by simp) _
  go_wp2_with (refine wpList_load_row rfl 141 (.tmp 3) rfl w.heap.size rfl 141 (marksArr f) (0, 0) _ (by first | exact heap_alloc_new _ _ | exact row_alloc (heap_alloc_new _ _)) Tryz.underlying141 rfl (by rw [marksArr_size]; exact hzi.out) ?_)
  rw [← hW1]
  clear hW1
  refine (ranges_ok f W1).mono ?_
  rintro e w2 ⟨v, rfl, hR, hb2⟩
  obtain ⟨ao, n, cap, rfl⟩ := hR.form
  have hP2 := row_below hP hb2
  obtain ⟨z0, z1, z2, z3, z4⟩ := row_five hP2
  have fz : ∀ o, w2.frozen? ⟨w.heap.size + 1, o, none⟩ = false := fun o => frozen_of_row _ _ _ _ _ hP2
  have g0 := fz 0
  have g1 := fz 1
  have g2 := fz 2
  have g3 := fz 3
  have g4 := fz 4
  have hbb := below_step hb1 hb1.size hb2
  have hs1 := hb1.size
  have hpl := row_lt hP
  have HR := hid hR
  clear hR fz
  go_wp2
  refine bodyPost_ret (v := .agg #[.int .i64 0, .int .i64 a, .slice ao n cap, .int .i64 0, .int .i64 0]) (by simp [results, Tryz.results66, go_sem, z0, z1, z2, z3, z4]) rfl ?_
  refine ⟨ao, n, cap, rfl, ownsRow_mono (ownsRow_keep HR.out fun b hb => ?_) hs1, ?_⟩
  · have := (ownsRow_blk HR.out hb).1
    have hne : b ≠ w.heap.size + 1 := by omega
    repeat rw [Below.heap_setCell _ _ _ _ hne]
  · exact ((((hbb.setCell (by simp) _).setCell (by simp) _).setCell (by simp) _).setCell (by simp) _).setCell (by simp) _
set_option maxRecDepth 100000 in
set_option maxHeartbeats 1000000 in
theorem postfix_ok (a x y : Int) (w : World) :
    Calls Tryz.prog 70 #[.int .i64 a, .int .i64 x, .int .i64 y] w fun e w' => e = .returned (.agg #[.int .i64 4, .int .i64 a, .slice none 0 0, .int .i64 x, .int .i64 y]) ∧ Below w.heap.size w w' := by
  go_enter Tryz.func70, Tryz.ntmps70
  go_wp2
  refine bodyPost_ret (v := .agg #[.int .i64 4, .int .i64 a, .slice none 0 0, .int .i64 x, .int .i64 y]) (by simp [results, Tryz.results70, go_sem]) rfl ⟨rfl, ?_⟩
  exact (Below.refl _ _).alloc (Nat.le_refl _) _
set_option maxRecDepth 100000 in
set_option maxHeartbeats 2000000 in
theorem oneByte_ok (s : List UInt8) (i j : Nat) (x : Tok) (C : Int) (w : World) (hC : atL s i = C) (hC0 : 0 ≤ C ∧ C ≤ 255) (h1 : C ≠ 92) (h2 : C ≠ 123) (h3 : C ≠ 91) (ht : tokF s i = .inr (x, j)) :
    Calls Tryz.prog 50 #[.int .u8 C, .int .i64 (i : Int)] w fun e w' => ∃ v, e = .returned v ∧ TokV w.heap.size w' x v ∧ Below w.heap.size w w' := by
  have hzv := (zero_of_info Tryz.zeroMarks).1
  have hzi : Hid _ := (zero_of_info Tryz.zeroMarks).2
  by_cases e94 : C = 94
  · subst e94
    rw [tokF_94 hC] at ht
    cases ht
    go_enter Tryz.func50, Tryz.ntmps50
    go_wp2
    refine bodyPost_ret (v := .agg #[.int .i64 5, .int .i64 i, .slice none 0 0, .int .i64 0, .int .i64 0]) (by simp [results, Tryz.results50, go_sem]) rfl ?_
    exact ⟨_, rfl, .bare (by simp) rfl, (Below.refl _ _).alloc (Nat.le_refl _) _⟩
  by_cases e36 : C = 36
  · subst e36
    rw [tokF_36 hC] at ht
    cases ht
    go_enter Tryz.func50, Tryz.ntmps50
    go_wp2
    refine bodyPost_ret (v := .agg #[.int .i64 6, .int .i64 i, .slice none 0 0, .int .i64 0, .int .i64 0]) (by simp [results, Tryz.results50, go_sem]) rfl ?_
    exact ⟨_, rfl, .bare (by simp) rfl, (Below.refl _ _).alloc (Nat.le_refl _) _⟩
  by_cases e40 : C = 40
  · subst e40
    rw [tokF_40 hC] at ht
    cases ht
    go_enter Tryz.func50, Tryz.ntmps50
    go_wp2
    refine bodyPost_ret (v := .agg #[.int .i64 1, .int .i64 i, .slice none 0 0, .int .i64 0, .int .i64 0]) (by simp [results, Tryz.results50, go_sem]) rfl ?_
    exact ⟨_, rfl, .bare (by simp) rfl, (Below.refl _ _).alloc (Nat.le_refl _) _⟩
  by_cases e41 : C = 41
  · subst e41
    rw [tokF_41 hC] at ht
    cases ht
    go_enter Tryz.func50, Tryz.ntmps50
    go_wp2
    refine bodyPost_ret (v := .agg #[.int .i64 2, .int .i64 i, .slice none 0 0, .int .i64 0, .int .i64 0]) (by simp [results, Tryz.results50, go_sem]) rfl ?_
    exact ⟨_, rfl, .bare (by simp) rfl, (Below.refl _ _).alloc (Nat.le_refl _) _⟩
  by_cases e124 : C = 124
  · subst e124
    rw [tokF_124 hC] at ht
    cases ht
    go_enter Tryz.func50, Tryz.ntmps50
    go_wp2
    refine bodyPost_ret (v := .agg #[.int .i64 3, .int .i64 i, .slice none 0 0, .int .i64 0, .int .i64 0]) (by simp [results, Tryz.results50, go_sem]) rfl ?_
    exact ⟨_, rfl, .bare (by simp) rfl, (Below.refl _ _).alloc (Nat.le_refl _) _⟩
  by_cases e42 : C = 42
  · subst e42
    rw [tokF_42 hC] at ht
    cases ht
    go_enter Tryz.func50, Tryz.ntmps50
    go_wp2_with fail
    obtain ⟨W1, hW1⟩ : ∃ W1, W1 = w.alloc (.cells #[.int .i64 0, .int .i64 0, .slice none 0 0, .int .i64 0, .int .i64 0] 105) := ⟨_, rfl⟩
    have hP : W1.heap[w.heap.size]? = some (.cells #[.int .i64 0, .int .i64 0, .slice none 0 0, .int .i64 0, .int .i64 0] 105 (0, 0)) := by rw [hW1]; exact heap_alloc_new _ _
    have hb1 : Below w.heap.size w W1 := by rw [hW1]; exact (Below.refl _ _).alloc (Nat.le_refl _) _
    rw [← hW1]
    clear hW1
    refine (postfix_ok _ _ _ W1).mono ?_
    rintro e w2 ⟨rfl, hb2⟩
    have hP2 := row_below hP hb2
    obtain ⟨z0, z1, z2, z3, z4⟩ := row_five hP2
    have fz : ∀ o, w2.frozen? ⟨w.heap.size, o, none⟩ = false := fun o => frozen_of_row _ _ _ _ _ hP2
    have g0 := fz 0
    have g1 := fz 1
    have g2 := fz 2
    have g3 := fz 3
    have g4 := fz 4
    have hbb := below_step hb1 hb1.size hb2
    clear fz
    go_wp2
    refine bodyPost_ret (v := .agg #[.int .i64 4, .int .i64 i, .slice none 0 0, .int .i64 0, .int .i64 (-1)]) (by simp [results, Tryz.results50, go_sem, z0, z1, z2, z3, z4]) rfl ?_
    exact ⟨_, rfl, .bare (by simp) rfl, ((((hbb.setCell (by simp) _).setCell (by simp) _).setCell (by simp) _).setCell (by simp) _).setCell (by simp) _⟩
  by_cases e43 : C = 43
  · subst e43
    rw [tokF_43 hC] at ht
    cases ht
    go_enter Tryz.func50, Tryz.ntmps50
    go_wp2_with fail
    obtain ⟨W1, hW1⟩ : ∃ W1, W1 = w.alloc (.cells #[.int .i64 0, .int .i64 0, .slice none 0 0, .int .i64 0, .int .i64 0] 105) := ⟨_, rfl⟩
    have hP : W1.heap[w.heap.size]? = some (.cells #[.int .i64 0, .int .i64 0, .slice none 0 0, .int .i64 0, .int .i64 0] 105 (0, 0)) := by rw [hW1]; exact heap_alloc_new _ _
    have hb1 : Below w.heap.size w W1 := by rw [hW1]; exact (Below.refl _ _).alloc (Nat.le_refl _) _
    rw [← hW1]
    clear hW1
    refine (postfix_ok _ _ _ W1).mono ?_
    rintro e w2 ⟨rfl, hb2⟩
    have hP2 := row_below hP hb2
    obtain ⟨z0, z1, z2, z3, z4⟩ := row_five hP2
    have fz : ∀ o, w2.frozen? ⟨w.heap.size, o, none⟩ = false := fun o => frozen_of_row _ _ _ _ _ hP2
    have g0 := fz 0
    have g1 := fz 1
    have g2 := fz 2
    have g3 := fz 3
    have g4 := fz 4
    have hbb := below_step hb1 hb1.size hb2
    clear fz
    go_wp2
    refine bodyPost_ret (v := .agg #[.int .i64 4, .int .i64 i, .slice none 0 0, .int .i64 1, .int .i64 (-1)]) (by simp [results, Tryz.results50, go_sem, z0, z1, z2, z3, z4]) rfl ?_
    exact ⟨_, rfl, .bare (by simp) rfl, ((((hbb.setCell (by simp) _).setCell (by simp) _).setCell (by simp) _).setCell (by simp) _).setCell (by simp) _⟩
  by_cases e63 : C = 63
  · subst e63
    rw [tokF_63 hC] at ht
    cases ht
    go_enter Tryz.func50, Tryz.ntmps50
    go_wp2_with fail
    obtain ⟨W1, hW1⟩ : ∃ W1, W1 = w.alloc (.cells #[.int .i64 0, .int .i64 0, .slice none 0 0, .int .i64 0, .int .i64 0] 105) := ⟨_, rfl⟩
    have hP : W1.heap[w.heap.size]? = some (.cells #[.int .i64 0, .int .i64 0, .slice none 0 0, .int .i64 0, .int .i64 0] 105 (0, 0)) := by rw [hW1]; exact heap_alloc_new _ _
    have hb1 : Below w.heap.size w W1 := by rw [hW1]; exact (Below.refl _ _).alloc (Nat.le_refl _) _
    rw [← hW1]
    clear hW1
    refine (postfix_ok _ _ _ W1).mono ?_
    rintro e w2 ⟨rfl, hb2⟩
    have hP2 := row_below hP hb2
    obtain ⟨z0, z1, z2, z3, z4⟩ := row_five hP2
    have fz : ∀ o, w2.frozen? ⟨w.heap.size, o, none⟩ = false := fun o => frozen_of_row _ _ _ _ _ hP2
    have g0 := fz 0
    have g1 := fz 1
    have g2 := fz 2
    have g3 := fz 3
    have g4 := fz 4
    have hbb := below_step hb1 hb1.size hb2
    clear fz
    go_wp2
    refine bodyPost_ret (v := .agg #[.int .i64 4, .int .i64 i, .slice none 0 0, .int .i64 0, .int .i64 1]) (by simp [results, Tryz.results50, go_sem, z0, z1, z2, z3, z4]) rfl ?_
    exact ⟨_, rfl, .bare (by simp) rfl, ((((hbb.setCell (by simp) _).setCell (by simp) _).setCell (by simp) _).setCell (by simp) _).setCell (by simp) _⟩
  by_cases e46 : C = 46
  · subst e46
    rw [tokF_46 hC] at ht
    cases ht
    go_enter Tryz.func50, Tryz.ntmps50
    go_wp2_with fail
    obtain ⟨W1, hW1⟩ : ∃ W1, W1 = w.alloc (.cells #[.int .i64 0, .int .i64 0, .slice none 0 0, .int .i64 0, .int .i64 0] 105) := ⟨_, rfl⟩
    have hP : W1.heap[w.heap.size]? = some (.cells #[.int .i64 0, .int .i64 0, .slice none 0 0, .int .i64 0, .int .i64 0] 105 (0, 0)) := by rw [hW1]; exact heap_alloc_new _ _
    have hb1 : Below w.heap.size w W1 := by rw [hW1]; exact (Below.refl _ _).alloc (Nat.le_refl _) _
    rw [← hW1]
    clear hW1
    refine (complement_ok (fun _ => false) W1).mono ?_
    rintro e w2 ⟨rfl, hb2⟩
    go_wp2_with fail
    refine (atom_ok _ _ w2).mono ?_
    rintro e w3 ⟨ao, n, cap, rfl, hR, hb3⟩
    have hb23 := (show w.heap.size ≤ w2.heap.size from Nat.le_trans hb1.size hb2.size)
    have hP2 := row_below (row_below hP hb2) hb3
    obtain ⟨z0, z1, z2, z3, z4⟩ := row_five hP2
    have fz : ∀ o, w3.frozen? ⟨w.heap.size, o, none⟩ = false := fun o => frozen_of_row _ _ _ _ _ hP2
    have g0 := fz 0
    have g1 := fz 1
    have g2 := fz 2
    have g3 := fz 3
    have g4 := fz 4
    have hbb := below_step (below_step hb1 hb1.size hb2) hb23 hb3
    have hs2 := hb2.size
    have hpl := row_lt hP
    have HR := hid hR
    clear hR fz
    go_wp2
    refine bodyPost_ret (v := .agg #[.int .i64 0, .int .i64 i, .slice ao n cap, .int .i64 0, .int .i64 0]) (by simp [results, Tryz.results50, go_sem, z0, z1, z2, z3, z4]) rfl ?_
    refine ⟨_, rfl, ⟨ao, n, cap, rfl, fun _ => ?_, fun h => absurd rfl h⟩, ((((hbb.setCell (by simp) _).setCell (by simp) _).setCell (by simp) _).setCell (by simp) _).setCell (by simp) _⟩
    have hR2 := ownsRow_mono HR.out hb23
    rw [rngF_congr (f := notB fun _ => false) (g := notB noB) (fun c _ => rfl) 256 (Nat.le_refl _)] at hR2
    refine ownsRow_keep hR2 fun b hb => ?_
    have := (ownsRow_blk HR.out hb).1
    have hne : b ≠ w.heap.size := by omega
    repeat rw [Below.heap_setCell _ _ _ _ hne]
  have ht2 := tokF_any (by rw [hC]; exact e94) (by rw [hC]; exact e36) (by rw [hC]; exact e40) (by rw [hC]; exact e41) (by rw [hC]; exact e124) (by rw [hC]; exact e42) (by rw [hC]; exact e43) (by rw [hC]; exact e63) (by rw [hC]; exact h2) (by rw [hC]; exact h3) (by rw [hC]; exact e46) (by rw [hC]; exact h1)
  rw [ht2, hC] at ht
  cases ht
  have d94 : (C == 94) = false := by simpa using e94
  have d36 : (C == 36) = false := by simpa using e36
  have d40 : (C == 40) = false := by simpa using e40
  have d41 : (C == 41) = false := by simpa using e41
  have d124 : (C == 124) = false := by simpa using e124
  have d42 : (C == 42) = false := by simpa using e42
  have d43 : (C == 43) = false := by simpa using e43
  have d63 : (C == 63) = false := by simpa using e63
  have d46 : (C == 46) = false := by simpa using e46
  clear e94 e36 e40 e41 e124 e42 e43 e63 e46 h1 h2 h3
  go_enter Tryz.func50, Tryz.ntmps50
  go_wp2_with fail
  obtain ⟨W1, hW1⟩ : ∃ W1, W1 = w.alloc (.cells #[.int .i64 0, .int .i64 0, .slice none 0 0, .int .i64 0, .int .i64 0] 105) := ⟨_, rfl⟩
  have hP : W1.heap[w.heap.size]? = some (.cells #[.int .i64 0, .int .i64 0, .slice none 0 0, .int .i64 0, .int .i64 0] 105 (0, 0)) := by rw [hW1]; exact heap_alloc_new _ _
  have hb1 : Below w.heap.size w W1 := by rw [hW1]; exact (Below.refl _ _).alloc (Nat.le_refl _) _
  rw [← hW1]
  clear hW1
  refine (with_ok (fun _ => false) C C W1 hC0.1 hC0.2).mono ?_
  rintro e w2 ⟨rfl, hb2⟩
  go_wp2_with fail
  refine (atom_ok _ _ w2).mono ?_
  rintro e w3 ⟨ao, n, cap, rfl, hR, hb3⟩
  have hb23 := (show w.heap.size ≤ w2.heap.size from Nat.le_trans hb1.size hb2.size)
  have hP2 := row_below (row_below hP hb2) hb3
  obtain ⟨z0, z1, z2, z3, z4⟩ := row_five hP2
  have fz : ∀ o, w3.frozen? ⟨w.heap.size, o, none⟩ = false := fun o => frozen_of_row _ _ _ _ _ hP2
  have g0 := fz 0
  have g1 := fz 1
  have g2 := fz 2
  have g3 := fz 3
  have g4 := fz 4
  have hbb := below_step (below_step hb1 hb1.size hb2) hb23 hb3
  have hs2 := hb2.size
  have hpl := row_lt hP
  have HR := hid hR
  clear hR fz
  go_wp2
  refine bodyPost_ret (v := .agg #[.int .i64 0, .int .i64 i, .slice ao n cap, .int .i64 0, .int .i64 0]) (by simp [results, Tryz.results50, go_sem, z0, z1, z2, z3, z4]) rfl ?_
  refine ⟨_, rfl, ⟨ao, n, cap, rfl, fun _ => ?_, fun h => absurd rfl h⟩, ((((hbb.setCell (by simp) _).setCell (by simp) _).setCell (by simp) _).setCell (by simp) _).setCell (by simp) _⟩
  have hR2 := ownsRow_mono HR.out hb23
  rw [rngF_congr (g := rangeB C C) (fun c _ => by simp [markIn, rangeB]) 256 (Nat.le_refl _)] at hR2
  refine ownsRow_keep hR2 fun b hb => ?_
  have := (ownsRow_blk HR.out hb).1
  have hne : b ≠ w.heap.size := by omega
  repeat rw [Below.heap_setCell _ _ _ _ hne]
theorem tokF_next1 {s : List UInt8} {i j : Nat} {x : Tok} (h1 : atL s i ≠ 92) (h2 : atL s i ≠ 123) (h3 : atL s i ≠ 91) (ht : tokF s i = .inr (x, j)) : j = i + 1 := by
  by_cases e94 : atL s i = 94
  · rw [tokF_94 e94] at ht; cases ht; rfl
  by_cases e36 : atL s i = 36
  · rw [tokF_36 e36] at ht; cases ht; rfl
  by_cases e40 : atL s i = 40
  · rw [tokF_40 e40] at ht; cases ht; rfl
  by_cases e41 : atL s i = 41
  · rw [tokF_41 e41] at ht; cases ht; rfl
  by_cases e124 : atL s i = 124
  · rw [tokF_124 e124] at ht; cases ht; rfl
  by_cases e42 : atL s i = 42
  · rw [tokF_42 e42] at ht; cases ht; rfl
  by_cases e43 : atL s i = 43
  · rw [tokF_43 e43] at ht; cases ht; rfl
  by_cases e63 : atL s i = 63
  · rw [tokF_63 e63] at ht; cases ht; rfl
  by_cases e46 : atL s i = 46
  · rw [tokF_46 e46] at ht; cases ht; rfl
  rw [tokF_any e94 e36 e40 e41 e124 e42 e43 e63 h2 h3 e46 h1] at ht
  cases ht
  rfl
end Go.Proofs.YtgbdlgogccgciaaGreatDoor
