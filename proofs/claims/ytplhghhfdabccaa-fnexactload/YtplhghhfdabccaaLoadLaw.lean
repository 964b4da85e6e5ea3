import Derived.Test.YtplhghhfdabccaaLoadAll
import Derived.Test.YtplhghhfdabccaaMarkT
namespace Go.Proofs.Ytplhghhfdabccaa
open Go.RowKit
attribute [local go_sem ↓] Go.wp_at_zero Go.wp_at_succ

set_option maxRecDepth 100000 in
set_option maxHeartbeats 2000000 in
theorem lawLoad_go (s : ByteArray) (width code : Int) (l : Nat → List Int) (w : World) (hs : s.size ≤ 1048576) (hl : ∀ i, i < 7 → (l i).length ≤ 1048576)
    (hspec : ∀ w : World, Calls Try.prog 35 #[.string s] w fun e w' => LoadAns w width code l e w')
    (himpl : ∀ w : World, Calls Try.prog 36 #[.string s] w fun e w' => LoadAns w width code l e w') :
    Calls Try.prog 9 #[.string s] w fun e w' => e = .returned (.bool true) ∧ Below w.heap.size w w' := by
  have hs' : ¬1048576 < (s.size : Int) := by omega
  go_enter Try.func9, Try.ntmps9
  go_wp2_with fail
  refine (hspec _).mono ?_
  intro e w1 hA
  obtain ⟨a0, p0, rfl, F0, b1⟩ := hA.form
  clear hA
  have hlow0 : ∀ i, i < 7 → ∀ b, (slV a0 l p0 i).ownBlock = some b → b < w1.heap.size := fun i hi b hb => (owns_block (F0.own i hi) hb).2
  unfold rowA slV
  have r0 : (w1.alloc (.cells #[.slice (a0 0) (l 0).length (p0 0), .int .i64 width, .slice (a0 1) (l 1).length (p0 1), .slice (a0 2) (l 2).length (p0 2), .slice (a0 3) (l 3).length (p0 3), .slice (a0 4) (l 4).length (p0 4), .slice (a0 5) (l 5).length (p0 5), .slice (a0 6) (l 6).length (p0 6)] 48)).heap[w1.heap.size]? = some (.cells #[.slice (a0 0) (l 0).length (p0 0), .int .i64 width, .slice (a0 1) (l 1).length (p0 1), .slice (a0 2) (l 2).length (p0 2), .slice (a0 3) (l 3).length (p0 3), .slice (a0 4) (l 4).length (p0 4), .slice (a0 5) (l 5).length (p0 5), .slice (a0 6) (l 6).length (p0 6)] 48 (0, 0)) := heap_alloc_new _ _
  have c1 := b1.alloc b1.size (.cells #[.slice (a0 0) (l 0).length (p0 0), .int .i64 width, .slice (a0 1) (l 1).length (p0 1), .slice (a0 2) (l 2).length (p0 2), .slice (a0 3) (l 3).length (p0 3), .slice (a0 4) (l 4).length (p0 4), .slice (a0 5) (l 5).length (p0 5), .slice (a0 6) (l 6).length (p0 6)] 48)
  replace F0 := F0.below ((Below.refl _ _).alloc (Nat.le_refl _) (.cells #[.slice (a0 0) (l 0).length (p0 0), .int .i64 width, .slice (a0 1) (l 1).length (p0 1), .slice (a0 2) (l 2).length (p0 2), .slice (a0 3) (l 3).length (p0 3), .slice (a0 4) (l 4).length (p0 4), .slice (a0 5) (l 5).length (p0 5), .slice (a0 6) (l 6).length (p0 6)] 48))
  go_wp2_with fail
  refine (himpl _).mono ?_
  intro e w2 hA
  obtain ⟨a1, p1, rfl, F1, b2⟩ := hA.form
  clear hA
  unfold rowA slV
  have c2 := below_step c1 c1.size b2
  have r2 := row_below r0 b2
  have hlt2 := row_lt r2
  replace F0 := F0.below b2
  have q2 : (w2.alloc (.cells #[.slice (a1 0) (l 0).length (p1 0), .int .i64 width, .slice (a1 1) (l 1).length (p1 1), .slice (a1 2) (l 2).length (p1 2), .slice (a1 3) (l 3).length (p1 3), .slice (a1 4) (l 4).length (p1 4), .slice (a1 5) (l 5).length (p1 5), .slice (a1 6) (l 6).length (p1 6)] 48)).heap[w2.heap.size]? = some (.cells #[.slice (a1 0) (l 0).length (p1 0), .int .i64 width, .slice (a1 1) (l 1).length (p1 1), .slice (a1 2) (l 2).length (p1 2), .slice (a1 3) (l 3).length (p1 3), .slice (a1 4) (l 4).length (p1 4), .slice (a1 5) (l 5).length (p1 5), .slice (a1 6) (l 6).length (p1 6)] 48 (0, 0)) := heap_alloc_new _ _
  have r2a : (w2.alloc (.cells #[.slice (a1 0) (l 0).length (p1 0), .int .i64 width, .slice (a1 1) (l 1).length (p1 1), .slice (a1 2) (l 2).length (p1 2), .slice (a1 3) (l 3).length (p1 3), .slice (a1 4) (l 4).length (p1 4), .slice (a1 5) (l 5).length (p1 5), .slice (a1 6) (l 6).length (p1 6)] 48)).heap[w1.heap.size]? = some (.cells #[.slice (a0 0) (l 0).length (p0 0), .int .i64 width, .slice (a0 1) (l 1).length (p0 1), .slice (a0 2) (l 2).length (p0 2), .slice (a0 3) (l 3).length (p0 3), .slice (a0 4) (l 4).length (p0 4), .slice (a0 5) (l 5).length (p0 5), .slice (a0 6) (l 6).length (p0 6)] 48 (0, 0)) := row_alloc r2
  have hna : Below w2.heap.size w2 (w2.alloc (.cells #[.slice (a1 0) (l 0).length (p1 0), .int .i64 width, .slice (a1 1) (l 1).length (p1 1), .slice (a1 2) (l 2).length (p1 2), .slice (a1 3) (l 3).length (p1 3), .slice (a1 4) (l 4).length (p1 4), .slice (a1 5) (l 5).length (p1 5), .slice (a1 6) (l 6).length (p1 6)] 48)) := (Below.refl _ _).alloc (Nat.le_refl _) _
  have c2a := below_step c2 c2.size hna
  have hlow : ∀ i, i < 7 → ∀ b, (slV a1 l p1 i).ownBlock = some b → b < w2.heap.size := fun i hi b hb => (owns_block (F1.own i hi) hb).2
  replace F0 := F0.below hna
  replace F1 := F1.below hna
  have hne : (code != code) = false := by simp
  obtain ⟨x0, x1, x2, x3, x4, x5, x6, x7⟩ := row_eight r2
  go_wp2_with fail
  refine (eqTable_ok _ _ _ _ _ _ _ _ _ _ _ _ _ _ (tabOf width l) _ (F1.tab width hl) (F0.tab width hl)).mono ?_
  rintro e w3 ⟨rfl, b3⟩
  have c3 := below_step c2a c2a.size b3
  replace r2a := row_below r2a b3
  replace q2 := row_below q2 b3
  have hsz3 := b3.size
  replace F0 := F0.below b3
  replace F1 := F1.below b3
  clear x0 x1 x2 x3 x4 x5 x6 x7 r2 r0 b3 hna
  obtain ⟨x0, x1, x2, x3, x4, x5, x6, x7⟩ := row_eight q2
  go_wp2_with fail
  refine (markTable_ok width (slV a1 l p1) l 1 _ F1 (by simp at hsz3; simp; have := b2.size; simp at this; omega) hl (by omega) (by omega)).mono ?_
  rintro e w4 ⟨rfl, b4, rest4, F4⟩
  have z2 := b2.size
  simp at z2
  have r4 : w4.heap[w1.heap.size]? = some (.cells #[.slice (a0 0) (l 0).length (p0 0), .int .i64 width, .slice (a0 1) (l 1).length (p0 1), .slice (a0 2) (l 2).length (p0 2), .slice (a0 3) (l 3).length (p0 3), .slice (a0 4) (l 4).length (p0 4), .slice (a0 5) (l 5).length (p0 5), .slice (a0 6) (l 6).length (p0 6)] 48 (0, 0)) := (b4.block w1.heap.size (by simp; omega)).trans r2a
  have q4 : w4.heap[w2.heap.size]? = some (.cells #[.slice (a1 0) (l 0).length (p1 0), .int .i64 width, .slice (a1 1) (l 1).length (p1 1), .slice (a1 2) (l 2).length (p1 2), .slice (a1 3) (l 3).length (p1 3), .slice (a1 4) (l 4).length (p1 4), .slice (a1 5) (l 5).length (p1 5), .slice (a1 6) (l 6).length (p1 6)] 48 (0, 0)) := (rest4 w2.heap.size (row_lt q2) (fun i hi hc => by have := hlow i hi _ hc; omega)).trans q2
  have F04 : Fam w.heap.size 7 w4 (slV a0 l p0) l := F0.keepOn fun i hi b hb => b4.block b (by have := hlow0 i hi b hb; simp; omega)
  have c4 : Below w.heap.size w w4 := c3.trans (b4.mono (by have := b1.size; simp; omega))
  have k0 := hl 0 (by omega); have k1 := hl 1 (by omega); have k2 := hl 2 (by omega); have k3 := hl 3 (by omega); have k4 := hl 4 (by omega); have k5 := hl 5 (by omega); have k6 := hl 6 (by omega)
  have s0 : IntsAt _ w4 (slV a1 l p1 0) (markL (1) (l 0).length) := (F4.own 0 (by omega)).at (by show (markL _ _).length ≤ _; rw [markL_len]; omega)
  have s1 : IntsAt _ w4 (slV a1 l p1 1) (markL (1 + (l 0).length) (l 1).length) := (F4.own 1 (by omega)).at (by show (markL _ _).length ≤ _; rw [markL_len]; omega)
  have s2 : IntsAt _ w4 (slV a1 l p1 2) (markL (1 + (l 0).length + (l 1).length) (l 2).length) := (F4.own 2 (by omega)).at (by show (markL _ _).length ≤ _; rw [markL_len]; omega)
  have s3 : IntsAt _ w4 (slV a1 l p1 3) (markL (1 + (l 0).length + (l 1).length + (l 2).length) (l 3).length) := (F4.own 3 (by omega)).at (by show (markL _ _).length ≤ _; rw [markL_len]; omega)
  have s4 : IntsAt _ w4 (slV a1 l p1 4) (markL (1 + (l 0).length + (l 1).length + (l 2).length + (l 3).length) (l 4).length) := (F4.own 4 (by omega)).at (by show (markL _ _).length ≤ _; rw [markL_len]; omega)
  have s5 : IntsAt _ w4 (slV a1 l p1 5) (markL (1 + (l 0).length + (l 1).length + (l 2).length + (l 3).length + (l 4).length) (l 5).length) := (F4.own 5 (by omega)).at (by show (markL _ _).length ≤ _; rw [markL_len]; omega)
  have s6 : IntsAt _ w4 (slV a1 l p1 6) (markL (1 + (l 0).length + (l 1).length + (l 2).length + (l 3).length + (l 4).length + (l 5).length) (l 6).length) := (F4.own 6 (by omega)).at (by show (markL _ _).length ≤ _; rw [markL_len]; omega)
  have hpos : 0 ≤ 1 + ((l 0).length : Int) + ((l 1).length : Int) + ((l 2).length : Int) + ((l 3).length : Int) + ((l 4).length : Int) + ((l 5).length : Int) + ((l 6).length : Int) := by omega
  have hH := heldTable_ok width (slV a1 l p1) (l 0).length (l 1).length (l 2).length (l 3).length (l 4).length (l 5).length (l 6).length 1 w4 s0 s1 s2 s3 s4 s5 s6 k0 k1 k2 k3 k4 k5 k6 (by omega) (by omega)
  clear s0 s1 s2 s3 s4 s5 s6 F4 F0 F1 b4 rest4 r2a q2 c3
  generalize 1 + ((l 0).length : Int) + ((l 1).length : Int) + ((l 2).length : Int) + ((l 3).length : Int) + ((l 4).length : Int) + ((l 5).length : Int) + ((l 6).length : Int) = tt at *
  have hne2 : (tt != tt) = false := by simp
  have hpos' : ¬tt < 0 := by omega
  clear x0 x1 x2 x3 x4 x5 x6 x7
  obtain ⟨x0, x1, x2, x3, x4, x5, x6, x7⟩ := row_eight q4
  go_wp2_with fail
  refine hH.mono ?_
  rintro e w5 ⟨rfl, b5⟩
  have c5 := below_step c4 c4.size b5
  have r5 := row_below r4 b5
  have F05 := F04.below b5
  clear x0 x1 x2 x3 x4 x5 x6 x7 hH q4 r4 F04 b5 c4
  go_wp2_with fail
  refine (himpl _).mono ?_
  intro e w6 hA
  obtain ⟨a2, p2, rfl, F2, b6⟩ := hA.form
  clear hA
  unfold rowA slV
  have c6 := below_step c5 c5.size b6
  have r6 := row_below r5 b6
  have hlt6 := row_lt r6
  have hnb : Below w6.heap.size w6 (w6.alloc (.cells #[.slice (a2 0) (l 0).length (p2 0), .int .i64 width, .slice (a2 1) (l 1).length (p2 1), .slice (a2 2) (l 2).length (p2 2), .slice (a2 3) (l 3).length (p2 3), .slice (a2 4) (l 4).length (p2 4), .slice (a2 5) (l 5).length (p2 5), .slice (a2 6) (l 6).length (p2 6)] 48)) := (Below.refl _ _).alloc (Nat.le_refl _) _
  have F06 := (F05.below b6).below hnb
  replace F2 := F2.below hnb
  have c6a := below_step c6 c6.size hnb
  obtain ⟨x0, x1, x2, x3, x4, x5, x6, x7⟩ := row_eight r6
  clear hnb F05 r5 b6
  go_wp2_with fail
  refine (eqTable_ok _ _ _ _ _ _ _ _ _ _ _ _ _ _ (tabOf width l) _ (F2.tab width hl) (F06.tab width hl)).mono ?_
  rintro e w7 ⟨rfl, b7⟩
  go_wp2
  go_ret
  exact ⟨rfl, below_step c6a c6a.size b7⟩

theorem loadL_len (s : ByteArray) : ∀ i, i < 7 → (loadL s i).length ≤ 1048576 := by
  intro i hi
  unfold loadL
  split
  · rename_i h
    unfold loadC at h
    split at h
    · omega
    split at h
    · omega
    split at h
    · omega
    rename_i g3
    split at h
    · omega
    split at h
    · omega
    rename_i g5
    have hn : btw (numN s 4) 1 4000 = true := by simpa using g3
    have := btw_iff.1 hn
    exact l3_len s (numN s 4) (numN s 8) (by omega) (by omega) i hi
  · simp
set_option maxHeartbeats 400000 in
theorem lawLoad_ok (s : ByteArray) (w : World) (hs : s.size ≤ 9223372036854775807)
    (himpl : s.size ≤ 1048576 → ∀ w : World, Calls Try.prog 36 #[.string s] w fun e w' => LoadAns w (loadW s) (loadC s) (loadL s) e w') :
    Calls Try.prog 9 #[.string s] w fun e w' => e = .returned (.bool true) ∧ Below w.heap.size w w' := by
  by_cases h : 1048576 < (s.size : Int)
  · go_enter Try.func9, Try.ntmps9
    go_wp2
    go_ret
    exact ⟨rfl, Below.refl _ _⟩
  · have h' : s.size ≤ 1048576 := by omega
    exact lawLoad_go s (loadW s) (loadC s) (loadL s) w h' (loadL_len s) (fun w => specLoad_ok s w h') (himpl h')
end Go.Proofs.Ytplhghhfdabccaa
