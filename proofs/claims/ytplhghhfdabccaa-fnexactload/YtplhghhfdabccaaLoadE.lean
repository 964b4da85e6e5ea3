import Derived.Test.YtplhghhfdabccaaLoadQ
namespace Go.Proofs.Ytplhghhfdabccaa
open Go.RowKit
attribute [local go_sem ↓] Go.wp_at_zero Go.wp_at_succ

set_option maxRecDepth 100000 in
set_option maxHeartbeats 1000000 in
theorem specLoad_1 (s : ByteArray) (w : World) (h : (s.size : Int) < 268) :
    Calls Try.prog 35 #[.string s] w fun e w' => LoadAns w 0 1 (fun _ => []) e w' := by
  go_enter Try.func35, Try.ntmps35
  go_wp2
  refine bodyPost_ret (v := .tuple #[.agg #[.slice none 0 0, .int .i64 0, .slice none 0 0, .slice none 0 0, .slice none 0 0, .slice none 0 0, .slice none 0 0, .slice none 0 0], .int .i64 1]) (by simp [results, Try.results35, go_sem]) rfl ?_
  exact ⟨w.heap.size, fun _ => .slice none 0 0, rfl, Nat.le_refl _, Fam.nil _ _ _, (Below.refl _ _).alloc (Nat.le_refl _) _⟩
set_option maxRecDepth 100000 in
set_option maxHeartbeats 1000000 in
theorem specLoad_2 (s : ByteArray) (w : World) (h268 : ¬(s.size : Int) < 268) (h : ((s.extract 0 4).toList == [88, 68, 70, 49]) = false) :
    Calls Try.prog 35 #[.string s] w fun e w' => LoadAns w 0 2 (fun _ => []) e w' := by
  go_enter Try.func35, Try.ntmps35
  go_wp2
  refine bodyPost_ret (v := .tuple #[.agg #[.slice none 0 0, .int .i64 0, .slice none 0 0, .slice none 0 0, .slice none 0 0, .slice none 0 0, .slice none 0 0, .slice none 0 0], .int .i64 2]) (by simp [results, Try.results35, go_sem]) rfl ?_
  exact ⟨w.heap.size, fun _ => .slice none 0 0, rfl, Nat.le_refl _, Fam.nil _ _ _, (Below.refl _ _).alloc (Nat.le_refl _) _⟩
set_option maxRecDepth 100000 in
set_option maxHeartbeats 1000000 in
theorem specLoad_3a (s : ByteArray) (w : World) (hs : s.size ≤ 1048576) (h268 : ¬(s.size : Int) < 268) (hmag : s.extract 0 4 = ⟨#[88, 68, 70, 49]⟩) (h : btw (numN s 4) 1 4000 = false) :
    Calls Try.prog 35 #[.string s] w fun e w' => LoadAns w 0 3 (fun _ => []) e w' := by
  have h268' : 268 ≤ (s.size : Int) := by omega
  have c4 := fun w => l3Num_ok s 4 4 w rfl (by omega) hs
  have c6 := fun w => l3Num_ok s 6 6 w rfl (by omega) hs
  have c8 := fun w => l3Num_ok s 8 8 w rfl (by omega) hs
  have q4 := numN_le s 4; have q6 := numN_le s 6; have q8 := numN_le s 8
  generalize numN s 4 = n at *
  generalize numN s 6 = wd at *
  generalize numN s 8 = sl at *
  go_enter Try.func35, Try.ntmps35
  go_wp2_with fail
  refine (c4 _).mono ?_
  rintro e w1 ⟨rfl, n1, rfl⟩
  go_wp2_with fail
  refine (c6 _).mono ?_
  rintro e w1 ⟨rfl, n2, rfl⟩
  go_wp2_with fail
  refine (c8 _).mono ?_
  rintro e w1 ⟨rfl, n3, rfl⟩
  clear c4 c6 c8
  go_wp2_with (go_at_call 54; refine (between_ok _ _ _ _).mono ?_; rintro e w' ⟨rfl, rfl⟩)
  refine bodyPost_ret (v := .tuple #[.agg #[.slice none 0 0, .int .i64 0, .slice none 0 0, .slice none 0 0, .slice none 0 0, .slice none 0 0, .slice none 0 0, .slice none 0 0], .int .i64 3]) (by simp [results, Try.results35, go_sem]) rfl ?_
  exact ⟨w.heap.size, fun _ => .slice none 0 0, rfl, Nat.le_refl _, Fam.nil _ _ _, below_set8 (below_drewN ((Below.refl _ _).alloc (Nat.le_refl _) _) _) (Nat.le_refl _) _ _ _ _ _ _ _ _⟩
set_option maxRecDepth 100000 in
set_option maxHeartbeats 1000000 in
theorem specLoad_3b (s : ByteArray) (w : World) (hs : s.size ≤ 1048576) (h268 : ¬(s.size : Int) < 268) (hmag : s.extract 0 4 = ⟨#[88, 68, 70, 49]⟩) (hn : btw (numN s 4) 1 4000 = true) (h : btw (numN s 6) 1 256 = false) :
    Calls Try.prog 35 #[.string s] w fun e w' => LoadAns w 0 3 (fun _ => []) e w' := by
  have h268' : 268 ≤ (s.size : Int) := by omega
  have c4 := fun w => l3Num_ok s 4 4 w rfl (by omega) hs
  have c6 := fun w => l3Num_ok s 6 6 w rfl (by omega) hs
  have c8 := fun w => l3Num_ok s 8 8 w rfl (by omega) hs
  have q4 := numN_le s 4; have q6 := numN_le s 6; have q8 := numN_le s 8
  generalize numN s 4 = n at *
  generalize numN s 6 = wd at *
  generalize numN s 8 = sl at *
  go_enter Try.func35, Try.ntmps35
  go_wp2_with fail
  refine (c4 _).mono ?_
  rintro e w1 ⟨rfl, n1, rfl⟩
  go_wp2_with fail
  refine (c6 _).mono ?_
  rintro e w1 ⟨rfl, n2, rfl⟩
  go_wp2_with fail
  refine (c8 _).mono ?_
  rintro e w1 ⟨rfl, n3, rfl⟩
  clear c4 c6 c8
  go_wp2_with (go_at_call 54; refine (between_ok _ _ _ _).mono ?_; rintro e w' ⟨rfl, rfl⟩)
  refine bodyPost_ret (v := .tuple #[.agg #[.slice none 0 0, .int .i64 0, .slice none 0 0, .slice none 0 0, .slice none 0 0, .slice none 0 0, .slice none 0 0, .slice none 0 0], .int .i64 3]) (by simp [results, Try.results35, go_sem]) rfl ?_
  exact ⟨w.heap.size, fun _ => .slice none 0 0, rfl, Nat.le_refl _, Fam.nil _ _ _, below_set8 (below_drewN ((Below.refl _ _).alloc (Nat.le_refl _) _) _) (Nat.le_refl _) _ _ _ _ _ _ _ _⟩
set_option maxRecDepth 100000 in
set_option maxHeartbeats 1000000 in
theorem specLoad_3c (s : ByteArray) (w : World) (hs : s.size ≤ 1048576) (h268 : ¬(s.size : Int) < 268) (hmag : s.extract 0 4 = ⟨#[88, 68, 70, 49]⟩) (hn : btw (numN s 4) 1 4000 = true) (hw : btw (numN s 6) 1 256 = true) (h : 60000 < (numN s 8 : Int)) :
    Calls Try.prog 35 #[.string s] w fun e w' => LoadAns w 0 3 (fun _ => []) e w' := by
  have h268' : 268 ≤ (s.size : Int) := by omega
  have c4 := fun w => l3Num_ok s 4 4 w rfl (by omega) hs
  have c6 := fun w => l3Num_ok s 6 6 w rfl (by omega) hs
  have c8 := fun w => l3Num_ok s 8 8 w rfl (by omega) hs
  have q4 := numN_le s 4; have q6 := numN_le s 6; have q8 := numN_le s 8
  generalize numN s 4 = n at *
  generalize numN s 6 = wd at *
  generalize numN s 8 = sl at *
  go_enter Try.func35, Try.ntmps35
  go_wp2_with fail
  refine (c4 _).mono ?_
  rintro e w1 ⟨rfl, n1, rfl⟩
  go_wp2_with fail
  refine (c6 _).mono ?_
  rintro e w1 ⟨rfl, n2, rfl⟩
  go_wp2_with fail
  refine (c8 _).mono ?_
  rintro e w1 ⟨rfl, n3, rfl⟩
  clear c4 c6 c8
  go_wp2_with (go_at_call 54; refine (between_ok _ _ _ _).mono ?_; rintro e w' ⟨rfl, rfl⟩)
  refine bodyPost_ret (v := .tuple #[.agg #[.slice none 0 0, .int .i64 0, .slice none 0 0, .slice none 0 0, .slice none 0 0, .slice none 0 0, .slice none 0 0, .slice none 0 0], .int .i64 3]) (by simp [results, Try.results35, go_sem]) rfl ?_
  exact ⟨w.heap.size, fun _ => .slice none 0 0, rfl, Nat.le_refl _, Fam.nil _ _ _, below_set8 (below_drewN ((Below.refl _ _).alloc (Nat.le_refl _) _) _) (Nat.le_refl _) _ _ _ _ _ _ _ _⟩
set_option maxRecDepth 100000 in
set_option maxHeartbeats 1000000 in
theorem specLoad_4 (s : ByteArray) (w : World) (hs : s.size ≤ 1048576) (h268 : ¬(s.size : Int) < 268) (hmag : s.extract 0 4 = ⟨#[88, 68, 70, 49]⟩) (hn : btw (numN s 4) 1 4000 = true) (hw : btw (numN s 6) 1 256 = true) (hsl : ¬60000 < (numN s 8 : Int)) (h : ((s.size : Int) != 268 + 8 * numN s 4 + 4 * numN s 8) = true) :
    Calls Try.prog 35 #[.string s] w fun e w' => LoadAns w 0 4 (fun _ => []) e w' := by
  have h268' : 268 ≤ (s.size : Int) := by omega
  have c4 := fun w => l3Num_ok s 4 4 w rfl (by omega) hs
  have c6 := fun w => l3Num_ok s 6 6 w rfl (by omega) hs
  have c8 := fun w => l3Num_ok s 8 8 w rfl (by omega) hs
  have q4 := numN_le s 4; have q6 := numN_le s 6; have q8 := numN_le s 8
  generalize numN s 4 = n at *
  generalize numN s 6 = wd at *
  generalize numN s 8 = sl at *
  go_enter Try.func35, Try.ntmps35
  go_wp2_with fail
  refine (c4 _).mono ?_
  rintro e w1 ⟨rfl, n1, rfl⟩
  go_wp2_with fail
  refine (c6 _).mono ?_
  rintro e w1 ⟨rfl, n2, rfl⟩
  go_wp2_with fail
  refine (c8 _).mono ?_
  rintro e w1 ⟨rfl, n3, rfl⟩
  clear c4 c6 c8
  go_wp2_with (go_at_call 54; refine (between_ok _ _ _ _).mono ?_; rintro e w' ⟨rfl, rfl⟩)
  refine bodyPost_ret (v := .tuple #[.agg #[.slice none 0 0, .int .i64 0, .slice none 0 0, .slice none 0 0, .slice none 0 0, .slice none 0 0, .slice none 0 0, .slice none 0 0], .int .i64 4]) (by simp [results, Try.results35, go_sem]) rfl ?_
  exact ⟨w.heap.size, fun _ => .slice none 0 0, rfl, Nat.le_refl _, Fam.nil _ _ _, below_set8 (below_drewN ((Below.refl _ _).alloc (Nat.le_refl _) _) _) (Nat.le_refl _) _ _ _ _ _ _ _ _⟩
end Go.Proofs.Ytplhghhfdabccaa
