import Derived.Test.YthgaeaihfbiolaaDoorNodeNodeS
import Derived.Deep.QuietTactic
import Derived.BigQuiet
namespace Go.Proofs.YthgaeaihfbiolaaDoor
open Go.RowKit

set_option maxRecDepth 100000 in
set_option maxHeartbeats 400000 in
theorem nodeOK_grp1 {lo : Nat} (mn mx g : Int) (v : Value) (rs : List (Int × Int)) (w : World) (hs : RangesAt lo w v rs) (hg : (g == 0) = false) :
    Calls Tryd.prog 48 #[.agg #[.int .i64 1, v, .int .i64 mn, .int .i64 mx, .int .i64 g]] w fun e w' => e = .returned (.bool false) ∧ Below w.heap.size w w' := by
  obtain ⟨ao, cap, rfl, hm, hc⟩ := hs
  clear hc
  go_enter Tryd.func48, Tryd.ntmps48
  go_wp2_with (go_at_call 46; refine (between_ok _ _ _ _).mono ?_; rintro e w' ⟨rfl, rfl⟩)
  all_goals
    go_ret
    exact ⟨rfl, (Below.refl _ _).alloc (Nat.le_refl _) _⟩

set_option maxRecDepth 100000 in
set_option maxHeartbeats 400000 in
theorem nodeOK_min1 {lo : Nat} (mn mx : Int) (v : Value) (rs : List (Int × Int)) (w : World) (hs : RangesAt lo w v rs) (hn : (mn == 0) = false) :
    Calls Tryd.prog 48 #[.agg #[.int .i64 1, v, .int .i64 mn, .int .i64 mx, .int .i64 0]] w fun e w' => e = .returned (.bool false) ∧ Below w.heap.size w w' := by
  obtain ⟨ao, cap, rfl, hm, hc⟩ := hs
  clear hc
  go_enter Tryd.func48, Tryd.ntmps48
  go_wp2_with (go_at_call 46; refine (between_ok _ _ _ _).mono ?_; rintro e w' ⟨rfl, rfl⟩)
  all_goals
    go_ret
    exact ⟨rfl, (Below.refl _ _).alloc (Nat.le_refl _) _⟩

set_option maxRecDepth 100000 in
set_option maxHeartbeats 400000 in
theorem nodeOK_max1 {lo : Nat} (mx : Int) (v : Value) (rs : List (Int × Int)) (w : World) (hs : RangesAt lo w v rs) (hn : (mx == 0) = false) :
    Calls Tryd.prog 48 #[.agg #[.int .i64 1, v, .int .i64 0, .int .i64 mx, .int .i64 0]] w fun e w' => e = .returned (.bool false) ∧ Below w.heap.size w w' := by
  obtain ⟨ao, cap, rfl, hm, hc⟩ := hs
  clear hc
  go_enter Tryd.func48, Tryd.ntmps48
  go_wp2_with (go_at_call 46; refine (between_ok _ _ _ _).mono ?_; rintro e w' ⟨rfl, rfl⟩)
  all_goals
    go_ret
    exact ⟨rfl, (Below.refl _ _).alloc (Nat.le_refl _) _⟩

set_option maxRecDepth 100000 in
set_option maxHeartbeats 400000 in
theorem nodeOK_len2 {lo : Nat} (mn mx g : Int) (v : Value) (rs : List (Int × Int)) (w : World) (hs : RangesAt lo w v rs) (hl : ((rs.length : Int) == 0) = false) :
    Calls Tryd.prog 48 #[.agg #[.int .i64 2, v, .int .i64 mn, .int .i64 mx, .int .i64 g]] w fun e w' => e = .returned (.bool false) ∧ Below w.heap.size w w' := by
  obtain ⟨ao, cap, rfl, hm, hc⟩ := hs
  clear hc
  go_enter Tryd.func48, Tryd.ntmps48
  go_wp2_with (go_at_call 46; refine (between_ok _ _ _ _).mono ?_; rintro e w' ⟨rfl, rfl⟩)
  all_goals
    go_ret
    exact ⟨rfl, (Below.refl _ _).alloc (Nat.le_refl _) _⟩

set_option maxRecDepth 100000 in
set_option maxHeartbeats 400000 in
theorem nodeOK_grp2 {lo : Nat} (mn mx g : Int) (v : Value) (rs : List (Int × Int)) (w : World) (hs : RangesAt lo w v rs) (hl : ((rs.length : Int) == 0) = true) (hg : (g == 0) = false) :
    Calls Tryd.prog 48 #[.agg #[.int .i64 2, v, .int .i64 mn, .int .i64 mx, .int .i64 g]] w fun e w' => e = .returned (.bool false) ∧ Below w.heap.size w w' := by
  obtain ⟨ao, cap, rfl, hm, hc⟩ := hs
  clear hc
  go_enter Tryd.func48, Tryd.ntmps48
  go_wp2_with (go_at_call 46; refine (between_ok _ _ _ _).mono ?_; rintro e w' ⟨rfl, rfl⟩)
  all_goals
    go_ret
    exact ⟨rfl, (Below.refl _ _).alloc (Nat.le_refl _) _⟩

set_option maxRecDepth 100000 in
set_option maxHeartbeats 400000 in
theorem nodeOK_min2 {lo : Nat} (mn mx : Int) (v : Value) (rs : List (Int × Int)) (w : World) (hs : RangesAt lo w v rs) (hl : ((rs.length : Int) == 0) = true) (hn : (mn == 0) = false) :
    Calls Tryd.prog 48 #[.agg #[.int .i64 2, v, .int .i64 mn, .int .i64 mx, .int .i64 0]] w fun e w' => e = .returned (.bool false) ∧ Below w.heap.size w w' := by
  obtain ⟨ao, cap, rfl, hm, hc⟩ := hs
  clear hc
  go_enter Tryd.func48, Tryd.ntmps48
  go_wp2_with (go_at_call 46; refine (between_ok _ _ _ _).mono ?_; rintro e w' ⟨rfl, rfl⟩)
  all_goals
    go_ret
    exact ⟨rfl, (Below.refl _ _).alloc (Nat.le_refl _) _⟩

set_option maxRecDepth 100000 in
set_option maxHeartbeats 400000 in
theorem nodeOK_max2 {lo : Nat} (mx : Int) (v : Value) (rs : List (Int × Int)) (w : World) (hs : RangesAt lo w v rs) (hl : ((rs.length : Int) == 0) = true) (hn : (mx == 0) = false) :
    Calls Tryd.prog 48 #[.agg #[.int .i64 2, v, .int .i64 0, .int .i64 mx, .int .i64 0]] w fun e w' => e = .returned (.bool false) ∧ Below w.heap.size w w' := by
  obtain ⟨ao, cap, rfl, hm, hc⟩ := hs
  clear hc
  go_enter Tryd.func48, Tryd.ntmps48
  go_wp2_with (go_at_call 46; refine (between_ok _ _ _ _).mono ?_; rintro e w' ⟨rfl, rfl⟩)
  all_goals
    go_ret
    exact ⟨rfl, (Below.refl _ _).alloc (Nat.le_refl _) _⟩

set_option maxRecDepth 100000 in
set_option maxHeartbeats 400000 in
theorem nodeOK_len3 {lo : Nat} (mn mx g : Int) (v : Value) (rs : List (Int × Int)) (w : World) (hs : RangesAt lo w v rs) (hl : ((rs.length : Int) == 0) = false) :
    Calls Tryd.prog 48 #[.agg #[.int .i64 3, v, .int .i64 mn, .int .i64 mx, .int .i64 g]] w fun e w' => e = .returned (.bool false) ∧ Below w.heap.size w w' := by
  obtain ⟨ao, cap, rfl, hm, hc⟩ := hs
  clear hc
  go_enter Tryd.func48, Tryd.ntmps48
  go_wp2_with (go_at_call 46; refine (between_ok _ _ _ _).mono ?_; rintro e w' ⟨rfl, rfl⟩)
  all_goals
    go_ret
    exact ⟨rfl, (Below.refl _ _).alloc (Nat.le_refl _) _⟩

set_option maxRecDepth 100000 in
set_option maxHeartbeats 400000 in
theorem nodeOK_grp3 {lo : Nat} (mn mx g : Int) (v : Value) (rs : List (Int × Int)) (w : World) (hs : RangesAt lo w v rs) (hl : ((rs.length : Int) == 0) = true) (hg : (g == 0) = false) :
    Calls Tryd.prog 48 #[.agg #[.int .i64 3, v, .int .i64 mn, .int .i64 mx, .int .i64 g]] w fun e w' => e = .returned (.bool false) ∧ Below w.heap.size w w' := by
  obtain ⟨ao, cap, rfl, hm, hc⟩ := hs
  clear hc
  go_enter Tryd.func48, Tryd.ntmps48
  go_wp2_with (go_at_call 46; refine (between_ok _ _ _ _).mono ?_; rintro e w' ⟨rfl, rfl⟩)
  all_goals
    go_ret
    exact ⟨rfl, (Below.refl _ _).alloc (Nat.le_refl _) _⟩

set_option maxRecDepth 100000 in
set_option maxHeartbeats 400000 in
theorem nodeOK_min3 {lo : Nat} (mn mx : Int) (v : Value) (rs : List (Int × Int)) (w : World) (hs : RangesAt lo w v rs) (hl : ((rs.length : Int) == 0) = true) (hn : (mn == 0) = false) :
    Calls Tryd.prog 48 #[.agg #[.int .i64 3, v, .int .i64 mn, .int .i64 mx, .int .i64 0]] w fun e w' => e = .returned (.bool false) ∧ Below w.heap.size w w' := by
  obtain ⟨ao, cap, rfl, hm, hc⟩ := hs
  clear hc
  go_enter Tryd.func48, Tryd.ntmps48
  go_wp2_with (go_at_call 46; refine (between_ok _ _ _ _).mono ?_; rintro e w' ⟨rfl, rfl⟩)
  all_goals
    go_ret
    exact ⟨rfl, (Below.refl _ _).alloc (Nat.le_refl _) _⟩

set_option maxRecDepth 100000 in
set_option maxHeartbeats 400000 in
theorem nodeOK_max3 {lo : Nat} (mx : Int) (v : Value) (rs : List (Int × Int)) (w : World) (hs : RangesAt lo w v rs) (hl : ((rs.length : Int) == 0) = true) (hn : (mx == 0) = false) :
    Calls Tryd.prog 48 #[.agg #[.int .i64 3, v, .int .i64 0, .int .i64 mx, .int .i64 0]] w fun e w' => e = .returned (.bool false) ∧ Below w.heap.size w w' := by
  obtain ⟨ao, cap, rfl, hm, hc⟩ := hs
  clear hc
  go_enter Tryd.func48, Tryd.ntmps48
  go_wp2_with (go_at_call 46; refine (between_ok _ _ _ _).mono ?_; rintro e w' ⟨rfl, rfl⟩)
  all_goals
    go_ret
    exact ⟨rfl, (Below.refl _ _).alloc (Nat.le_refl _) _⟩

set_option maxRecDepth 100000 in
set_option maxHeartbeats 400000 in
theorem nodeOK_len4 {lo : Nat} (mn mx g : Int) (v : Value) (rs : List (Int × Int)) (w : World) (hs : RangesAt lo w v rs) (hl : ((rs.length : Int) == 0) = false) :
    Calls Tryd.prog 48 #[.agg #[.int .i64 4, v, .int .i64 mn, .int .i64 mx, .int .i64 g]] w fun e w' => e = .returned (.bool false) ∧ Below w.heap.size w w' := by
  obtain ⟨ao, cap, rfl, hm, hc⟩ := hs
  clear hc
  go_enter Tryd.func48, Tryd.ntmps48
  go_wp2_with (go_at_call 46; refine (between_ok _ _ _ _).mono ?_; rintro e w' ⟨rfl, rfl⟩)
  all_goals
    go_ret
    exact ⟨rfl, (Below.refl _ _).alloc (Nat.le_refl _) _⟩

set_option maxRecDepth 100000 in
set_option maxHeartbeats 400000 in
theorem nodeOK_grp4 {lo : Nat} (mn mx g : Int) (v : Value) (rs : List (Int × Int)) (w : World) (hs : RangesAt lo w v rs) (hl : ((rs.length : Int) == 0) = true) (hg : (g == 0) = false) :
    Calls Tryd.prog 48 #[.agg #[.int .i64 4, v, .int .i64 mn, .int .i64 mx, .int .i64 g]] w fun e w' => e = .returned (.bool false) ∧ Below w.heap.size w w' := by
  obtain ⟨ao, cap, rfl, hm, hc⟩ := hs
  clear hc
  go_enter Tryd.func48, Tryd.ntmps48
  go_wp2_with (go_at_call 46; refine (between_ok _ _ _ _).mono ?_; rintro e w' ⟨rfl, rfl⟩)
  all_goals
    go_ret
    exact ⟨rfl, (Below.refl _ _).alloc (Nat.le_refl _) _⟩

set_option maxRecDepth 100000 in
set_option maxHeartbeats 400000 in
theorem nodeOK_len5 {lo : Nat} (mn mx g : Int) (v : Value) (rs : List (Int × Int)) (w : World) (hs : RangesAt lo w v rs) (hl : ((rs.length : Int) == 0) = false) :
    Calls Tryd.prog 48 #[.agg #[.int .i64 5, v, .int .i64 mn, .int .i64 mx, .int .i64 g]] w fun e w' => e = .returned (.bool false) ∧ Below w.heap.size w w' := by
  obtain ⟨ao, cap, rfl, hm, hc⟩ := hs
  clear hc
  go_enter Tryd.func48, Tryd.ntmps48
  go_wp2_with (go_at_call 46; refine (between_ok _ _ _ _).mono ?_; rintro e w' ⟨rfl, rfl⟩)
  all_goals
    go_ret
    exact ⟨rfl, (Below.refl _ _).alloc (Nat.le_refl _) _⟩

set_option maxRecDepth 100000 in
set_option maxHeartbeats 400000 in
theorem nodeOK_min5 {lo : Nat} (mn mx g : Int) (v : Value) (rs : List (Int × Int)) (w : World) (hs : RangesAt lo w v rs) (hl : ((rs.length : Int) == 0) = true) (hn : (mn == 0) = false) :
    Calls Tryd.prog 48 #[.agg #[.int .i64 5, v, .int .i64 mn, .int .i64 mx, .int .i64 g]] w fun e w' => e = .returned (.bool false) ∧ Below w.heap.size w w' := by
  obtain ⟨ao, cap, rfl, hm, hc⟩ := hs
  clear hc
  go_enter Tryd.func48, Tryd.ntmps48
  go_wp2_with (go_at_call 46; refine (between_ok _ _ _ _).mono ?_; rintro e w' ⟨rfl, rfl⟩)
  all_goals
    go_ret
    exact ⟨rfl, (Below.refl _ _).alloc (Nat.le_refl _) _⟩

set_option maxRecDepth 100000 in
set_option maxHeartbeats 400000 in
theorem nodeOK_max5 {lo : Nat} (mx g : Int) (v : Value) (rs : List (Int × Int)) (w : World) (hs : RangesAt lo w v rs) (hl : ((rs.length : Int) == 0) = true) (hn : (mx == 0) = false) :
    Calls Tryd.prog 48 #[.agg #[.int .i64 5, v, .int .i64 0, .int .i64 mx, .int .i64 g]] w fun e w' => e = .returned (.bool false) ∧ Below w.heap.size w w' := by
  obtain ⟨ao, cap, rfl, hm, hc⟩ := hs
  clear hc
  go_enter Tryd.func48, Tryd.ntmps48
  go_wp2_with (go_at_call 46; refine (between_ok _ _ _ _).mono ?_; rintro e w' ⟨rfl, rfl⟩)
  all_goals
    go_ret
    exact ⟨rfl, (Below.refl _ _).alloc (Nat.le_refl _) _⟩

set_option maxRecDepth 100000 in
set_option maxHeartbeats 400000 in
theorem nodeOK_true2 {lo : Nat} (v : Value) (rs : List (Int × Int)) (w : World) (hs : RangesAt lo w v rs) (hl : ((rs.length : Int) == 0) = true) :
    Calls Tryd.prog 48 #[.agg #[.int .i64 2, v, .int .i64 0, .int .i64 0, .int .i64 0]] w fun e w' => e = .returned (.bool true) ∧ Below w.heap.size w w' := by
  obtain ⟨ao, cap, rfl, hm, hc⟩ := hs
  clear hc
  have hl0 : rs.length = 0 := by have := eq_of_beq hl; omega
  rw [hl0]
  clear hl hm
  go_enter Tryd.func48, Tryd.ntmps48
  go_wp2_with (go_at_call 46; refine (between_ok _ _ _ _).mono ?_; rintro e w' ⟨rfl, rfl⟩)
  refine wp_loop_rounds 1 ?_
  rw [rounds_succ]
  go_wp2
  go_ret
  exact ⟨rfl, (Below.refl _ _).alloc (Nat.le_refl _) _⟩

set_option maxRecDepth 100000 in
set_option maxHeartbeats 400000 in
theorem nodeOK_true3 {lo : Nat} (v : Value) (rs : List (Int × Int)) (w : World) (hs : RangesAt lo w v rs) (hl : ((rs.length : Int) == 0) = true) :
    Calls Tryd.prog 48 #[.agg #[.int .i64 3, v, .int .i64 0, .int .i64 0, .int .i64 0]] w fun e w' => e = .returned (.bool true) ∧ Below w.heap.size w w' := by
  obtain ⟨ao, cap, rfl, hm, hc⟩ := hs
  clear hc
  have hl0 : rs.length = 0 := by have := eq_of_beq hl; omega
  rw [hl0]
  clear hl hm
  go_enter Tryd.func48, Tryd.ntmps48
  go_wp2_with (go_at_call 46; refine (between_ok _ _ _ _).mono ?_; rintro e w' ⟨rfl, rfl⟩)
  refine wp_loop_rounds 1 ?_
  rw [rounds_succ]
  go_wp2
  go_ret
  exact ⟨rfl, (Below.refl _ _).alloc (Nat.le_refl _) _⟩

set_option maxRecDepth 100000 in
set_option maxHeartbeats 400000 in
theorem nodeOK_true5 {lo : Nat} (g : Int) (v : Value) (rs : List (Int × Int)) (w : World) (hs : RangesAt lo w v rs) (hl : ((rs.length : Int) == 0) = true) :
    Calls Tryd.prog 48 #[.agg #[.int .i64 5, v, .int .i64 0, .int .i64 0, .int .i64 g]] w fun e w' => e = .returned (.bool true) ∧ Below w.heap.size w w' := by
  obtain ⟨ao, cap, rfl, hm, hc⟩ := hs
  clear hc
  have hl0 : rs.length = 0 := by have := eq_of_beq hl; omega
  rw [hl0]
  clear hl hm
  go_enter Tryd.func48, Tryd.ntmps48
  go_wp2_with (go_at_call 46; refine (between_ok _ _ _ _).mono ?_; rintro e w' ⟨rfl, rfl⟩)
  refine wp_loop_rounds 1 ?_
  rw [rounds_succ]
  go_wp2
  go_ret
  exact ⟨rfl, (Below.refl _ _).alloc (Nat.le_refl _) _⟩

set_option maxRecDepth 100000 in
set_option maxHeartbeats 400000 in
theorem nodeOK_bmin {lo : Nat} (mn mx : Int) (v : Value) (rs : List (Int × Int)) (w : World) (hs : RangesAt lo w v rs) (hl : ((rs.length : Int) == 0) = true) (hb : btw mn 0 255 = false) :
    Calls Tryd.prog 48 #[.agg #[.int .i64 4, v, .int .i64 mn, .int .i64 mx, .int .i64 0]] w fun e w' => e = .returned (.bool false) ∧ Below w.heap.size w w' := by
  obtain ⟨ao, cap, rfl, hm, hc⟩ := hs
  clear hc
  go_enter Tryd.func48, Tryd.ntmps48
  go_wp2_with (go_at_call 46; refine (between_ok _ _ _ _).mono ?_; rintro e w' ⟨rfl, rfl⟩)
  all_goals
    go_ret
    exact ⟨rfl, (Below.refl _ _).alloc (Nat.le_refl _) _⟩

set_option maxRecDepth 100000 in
set_option maxHeartbeats 400000 in
theorem nodeOK_bmax {lo : Nat} (mn mx : Int) (v : Value) (rs : List (Int × Int)) (w : World) (hs : RangesAt lo w v rs) (hl : ((rs.length : Int) == 0) = true) (hb : btw mn 0 255 = true) (hx2 : (mx != -1) = true) (hb2 : btw mx mn 255 = false) :
    Calls Tryd.prog 48 #[.agg #[.int .i64 4, v, .int .i64 mn, .int .i64 mx, .int .i64 0]] w fun e w' => e = .returned (.bool false) ∧ Below w.heap.size w w' := by
  obtain ⟨ao, cap, rfl, hm, hc⟩ := hs
  clear hc
  go_enter Tryd.func48, Tryd.ntmps48
  go_wp2_with (go_at_call 46; refine (between_ok _ _ _ _).mono ?_; rintro e w' ⟨rfl, rfl⟩)
  all_goals
    go_ret
    exact ⟨rfl, (Below.refl _ _).alloc (Nat.le_refl _) _⟩

set_option maxRecDepth 100000 in
set_option maxHeartbeats 400000 in
theorem nodeOK_tru4a {lo : Nat} (mn : Int) (v : Value) (rs : List (Int × Int)) (w : World) (hs : RangesAt lo w v rs) (hl : ((rs.length : Int) == 0) = true) (hb : btw mn 0 255 = true) :
    Calls Tryd.prog 48 #[.agg #[.int .i64 4, v, .int .i64 mn, .int .i64 (-1), .int .i64 0]] w fun e w' => e = .returned (.bool true) ∧ Below w.heap.size w w' := by
  obtain ⟨ao, cap, rfl, hm, hc⟩ := hs
  clear hc
  have hl0 : rs.length = 0 := by have := eq_of_beq hl; omega
  rw [hl0]
  clear hl hm
  go_enter Tryd.func48, Tryd.ntmps48
  go_wp2_with (go_at_call 46; refine (between_ok _ _ _ _).mono ?_; rintro e w' ⟨rfl, rfl⟩)
  refine wp_loop_rounds 1 ?_
  rw [rounds_succ]
  go_wp2
  go_ret
  exact ⟨rfl, (Below.refl _ _).alloc (Nat.le_refl _) _⟩

set_option maxRecDepth 100000 in
set_option maxHeartbeats 400000 in
theorem nodeOK_tru4b {lo : Nat} (mn mx : Int) (v : Value) (rs : List (Int × Int)) (w : World) (hs : RangesAt lo w v rs) (hl : ((rs.length : Int) == 0) = true) (hb : btw mn 0 255 = true) (hx2 : (mx != -1) = true) (hb2 : btw mx mn 255 = true) :
    Calls Tryd.prog 48 #[.agg #[.int .i64 4, v, .int .i64 mn, .int .i64 mx, .int .i64 0]] w fun e w' => e = .returned (.bool true) ∧ Below w.heap.size w w' := by
  obtain ⟨ao, cap, rfl, hm, hc⟩ := hs
  clear hc
  have hl0 : rs.length = 0 := by have := eq_of_beq hl; omega
  rw [hl0]
  clear hl hm
  go_enter Tryd.func48, Tryd.ntmps48
  go_wp2_with (go_at_call 46; refine (between_ok _ _ _ _).mono ?_; rintro e w' ⟨rfl, rfl⟩)
  refine wp_loop_rounds 1 ?_
  rw [rounds_succ]
  go_wp2
  go_ret
  exact ⟨rfl, (Below.refl _ _).alloc (Nat.le_refl _) _⟩

set_option maxRecDepth 100000 in
set_option maxHeartbeats 400000 in
theorem nodeOK_low {lo : Nat} (k mn mx g : Int) (v : Value) (rs : List (Int × Int)) (w : World) (hs : RangesAt lo w v rs) (hk : k < 1) :
    Calls Tryd.prog 48 #[.agg #[.int .i64 k, v, .int .i64 mn, .int .i64 mx, .int .i64 g]] w fun e w' => e = .returned (.bool false) ∧ Below w.heap.size w w' := by
  obtain ⟨ao, cap, rfl, hm, hc⟩ := hs
  clear hc
  go_enter Tryd.func48, Tryd.ntmps48
  go_wp2_with (go_at_call 46; refine (between_ok _ _ _ _).mono ?_; rintro e w' ⟨rfl, rfl⟩)
  all_goals
    go_ret
    exact ⟨rfl, (Below.refl _ _).alloc (Nat.le_refl _) _⟩

set_option maxRecDepth 100000 in
set_option maxHeartbeats 400000 in
theorem nodeOK_high {lo : Nat} (k mn mx g : Int) (v : Value) (rs : List (Int × Int)) (w : World) (hs : RangesAt lo w v rs) (hk : 5 < k) :
    Calls Tryd.prog 48 #[.agg #[.int .i64 k, v, .int .i64 mn, .int .i64 mx, .int .i64 g]] w fun e w' => e = .returned (.bool false) ∧ Below w.heap.size w w' := by
  obtain ⟨ao, cap, rfl, hm, hc⟩ := hs
  clear hc
  go_enter Tryd.func48, Tryd.ntmps48
  go_wp2_with (go_at_call 46; refine (between_ok _ _ _ _).mono ?_; rintro e w' ⟨rfl, rfl⟩)
  all_goals
    go_ret
    exact ⟨rfl, (Below.refl _ _).alloc (Nat.le_refl _) _⟩

end Go.Proofs.YthgaeaihfbiolaaDoor
