import Derived.Test.YtplhghhfdabccaaLoadQ
namespace Go.Proofs.Ytplhghhfdabccaa
open Go.RowKit
attribute [local go_sem ↓] Go.wp_at_zero Go.wp_at_succ

set_option maxRecDepth 100000 in
set_option maxHeartbeats 4000000 in
/-- The sum is wrong. -/
theorem specLoad_5 (s : ByteArray) (w : World) (hs : s.size ≤ 1048576) (h268 : ¬(s.size : Int) < 268) (hmag : s.extract 0 4 = ⟨#[88, 68, 70, 49]⟩) (hn : btw (numN s 4) 1 4000 = true) (hw : btw (numN s 6) 1 256 = true) (hsl : ¬60000 < (numN s 8 : Int)) (HL : Hid ((s.size : Int) = 268 + 8 * numN s 4 + 4 * numN s 8)) (h5 : ((sumF (s.extract 0 (s.size - 2)).data.toList : Int) != (numN s (s.size - 2) : Int)) = true) :
    Calls Try.prog 35 #[.string s] w fun e w' => LoadAns w 0 5 (fun _ => []) e w' := by
  obtain ⟨i0, hi, hz0, hz1, hz2⟩ := info_parts Try.infoInt
  have h268' : 268 ≤ (s.size : Int) := by omega
  have c4 := fun w => l3Num_ok s 4 4 w rfl (by omega) hs
  have c6 := fun w => l3Num_ok s 6 6 w rfl (by omega) hs
  have c8 := fun w => l3Num_ok s 8 8 w rfl (by omega) hs
  have c2 := fun w => l3Num_ok s (s.size - 2) ((s.size : Int) - 2) w (by omega) (by omega) hs
  have q4 := numN_le s 4; have q6 := numN_le s 6; have q8 := numN_le s 8
  generalize numN s (s.size - 2) = zz at *
  generalize numN s 4 = n at *
  generalize numN s 6 = wd at *
  generalize numN s 8 = sl at *
  have hneq : ((s.size : Int) != 268 + 8 * (n : Int) + 4 * (sl : Int)) = false := by have := HL.out; simp; omega
  go_enter Try.func35, Try.ntmps35
  go_wp2_with fail
  refine (c4 _).mono ?_
  rintro e w1 ⟨rfl, n1, rfl⟩
  go_wp2_with fail
  refine (c6 _).mono ?_
  rintro e w1 ⟨rfl, n2, rfl⟩
  go_wp2_with fail
  refine (c8 _).mono ?_
  rintro e w1 ⟨rfl, n3, rfl⟩
  clear c4 c6 c8
  go_wp2_with (go_at_call 54; refine (between_ok _ _ _ _).mono ?_; rintro e w' ⟨rfl, rfl⟩)
  rw [Go.Lib.run_convert_string_bytes _ _ _ _ _ Try.underlying9 Try.underlying104 Try.underlying5]
  have hbw := bytesWorld_below ((w.alloc (.cells #[.slice none 0 0, .int .i64 0, .slice none 0 0, .slice none 0 0, .slice none 0 0, .slice none 0 0, .slice none 0 0, .slice none 0 0] 48)).drewN (n1 + n2 + n3)) 5 (s.extract 0 (s.size - 2))
  have hcell : Hid (∀ k, k < (s.extract 0 (s.size - 2)).data.toList.length → (Go.Lib.bytesWorld ((w.alloc (.cells #[.slice none 0 0, .int .i64 0, .slice none 0 0, .slice none 0 0, .slice none 0 0, .slice none 0 0, .slice none 0 0, .slice none 0 0] 48)).drewN (n1 + n2 + n3)) 5 (s.extract 0 (s.size - 2))).cell? ⟨w.heap.size + 1, k, none⟩ = some (.int .u8 (((s.extract 0 (s.size - 2)).data.toList.getD k 0).toNat : Int))) := by
    intro k hk
    have := Go.Lib.bytesWorld_cell ((w.alloc (.cells #[.slice none 0 0, .int .i64 0, .slice none 0 0, .slice none 0 0, .slice none 0 0, .slice none 0 0, .slice none 0 0, .slice none 0 0] 48)).drewN (n1 + n2 + n3)) 5 (s.extract 0 (s.size - 2)) k (by simpa using hk)
    simpa using this
  have res0 : (Go.Lib.bytesWorld ((w.alloc (.cells #[.slice none 0 0, .int .i64 0, .slice none 0 0, .slice none 0 0, .slice none 0 0, .slice none 0 0, .slice none 0 0, .slice none 0 0] 48)).drewN (n1 + n2 + n3)) 5 (s.extract 0 (s.size - 2))).heap[w.heap.size]? = some (.cells zeroA 48 (0, 0)) := by
    rw [Go.Lib.bytesWorld_at_old _ _ _ _ (by simp)]
    exact heap_alloc_new _ _
  have hW : Below w.heap.size w (Go.Lib.bytesWorld ((w.alloc (.cells #[.slice none 0 0, .int .i64 0, .slice none 0 0, .slice none 0 0, .slice none 0 0, .slice none 0 0, .slice none 0 0, .slice none 0 0] 48)).drewN (n1 + n2 + n3)) 5 (s.extract 0 (s.size - 2))) := below_step (below_drewN ((Below.refl _ _).alloc (Nat.le_refl _) _) _) (by simp) hbw
  have hsz5 : w.heap.size + 1 + 1 ≤ (Go.Lib.bytesWorld ((w.alloc (.cells #[.slice none 0 0, .int .i64 0, .slice none 0 0, .slice none 0 0, .slice none 0 0, .slice none 0 0, .slice none 0 0, .slice none 0 0] 48)).drewN (n1 + n2 + n3)) 5 (s.extract 0 (s.size - 2))).heap.size := by rw [Go.Lib.bytesWorld_size]; simp
  clear hbw
  generalize Go.Lib.bytesWorld ((w.alloc (.cells #[.slice none 0 0, .int .i64 0, .slice none 0 0, .slice none 0 0, .slice none 0 0, .slice none 0 0, .slice none 0 0, .slice none 0 0] 48)).drewN (n1 + n2 + n3)) 5 (s.extract 0 (s.size - 2)) = w5 at *
  generalize grownCap _ _ _ _ = cp
  have hS := l3Sum_len (w.heap.size + 1) cp (s.size - 2) (s.extract 0 (s.size - 2)).data.toList w5 (by simp) hcell.out (by simp; omega)
  generalize sumF (s.extract 0 (s.size - 2)).data.toList = sv at *
  clear hcell
  go_wp2_with fail
  refine hS.mono ?_
  rintro e w6 ⟨rfl, rfl⟩
  clear hS
  go_wp2_with fail
  refine (c2 _).mono ?_
  rintro e w7 ⟨rfl, n4, hw7⟩
  have hW7 : Below w.heap.size w w7 := by rw [hw7]; exact below_drewN hW _
  have res7 : w7.heap[w.heap.size]? = some (.cells zeroA 48 (0, 0)) := by rw [hw7]; simpa using res0
  have hsz7 : w.heap.size + 1 + 1 ≤ w7.heap.size := by rw [hw7]; simpa using hsz5
  clear c2 hw7 hW res0 hsz5
  have fr : ∀ o, w7.frozen? ⟨w.heap.size, o, none⟩ = false := fun _ => frozen_of_row _ _ _ _ _ res7
  unfold zeroA at res7
  obtain ⟨y0, y1, y2, y3, y4, y5, y6, y7⟩ := row_eight res7
  go_wp2
  refine bodyPost_ret (v := .tuple #[.agg #[.slice none 0 0, .int .i64 0, .slice none 0 0, .slice none 0 0, .slice none 0 0, .slice none 0 0, .slice none 0 0, .slice none 0 0], .int .i64 5]) (by simp [results, Try.results35, go_sem, y0, y1, y2, y3, y4, y5, y6, y7]) rfl ?_
  exact ⟨w.heap.size, fun _ => .slice none 0 0, rfl, Nat.le_refl _, Fam.nil _ _ _, below_set8 hW7 (Nat.le_refl _) _ _ _ _ _ _ _ _⟩
end Go.Proofs.Ytplhghhfdabccaa
