import Derived.Test.YtmkcclapfgmicabDfaOpen
namespace Go.Proofs.Ytmkcclapfgmicab
open Go.RowKit

set_option maxRecDepth 100000 in
set_option maxHeartbeats 400000 in
theorem within_ok {l : Nat} (lo hi : Int) (v : Value) (xs : List Int) (w : World) (hs : IntsAt l w v xs) :
    Calls Try.prog 40 #[v, .int .i64 lo, .int .i64 hi] w fun e w' => e = .returned (.bool (allIn lo hi xs)) ∧ w' = w := by
  obtain ⟨ao, cap, rfl, hm, hc⟩ := hs
  go_enter Try.func40, Try.ntmps40
  go_wp2
  go_loop [11] (fun i => ∃ k : Nat, k ≤ xs.length ∧ i = .int .i64 k ∧ Hid (allIn lo hi xs = allIn lo hi (xs.drop k)))
    (fun i => xs.length - (intOf i).toNat)
  case atStart => exact ⟨0, Nat.zero_le _, rfl, rfl⟩
  case round =>
    obtain ⟨k, hk, rfl, HS⟩ := hrel
    by_cases hlt : k < xs.length
    · obtain ⟨b, o, x, rfl, Hn, hbl, c0⟩ := hc.elem (Below.refl _ _) hlt
      have HD : Hid _ := allIn_drop lo hi xs k hlt x Hn.out
      by_cases h1 : x < lo
      · have hb : Hid (btw x lo hi = false) := by show _ = _; simp [btw]; omega
        go_wp2
        go_ret
        exact ⟨ret_bool (by rw [HS.out, HD.out, hb.out, Bool.false_and]), rfl⟩
      by_cases h2 : hi < x
      · have hb : Hid (btw x lo hi = false) := by show _ = _; simp [btw]; omega
        go_wp2
        go_ret
        exact ⟨ret_bool (by rw [HS.out, HD.out, hb.out, Bool.false_and]), rfl⟩
      have hb : Hid (btw x lo hi = true) := by show _ = _; simp [btw]; omega
      go_wp2
      go_round
      case rel => exact ⟨k + 1, by omega, by go_num, by show _ = _; rw [HS.out, HD.out, hb.out, Bool.true_and]⟩
      case measure => simp [intOf]; omega
    · go_wp2
      go_ret
      exact ⟨ret_bool (by rw [HS.out, List.drop_eq_nil_of_le (by omega)]; rfl), rfl⟩

set_option maxHeartbeats 400000 in
theorem answersOK_ok {l : Nat} (v : Value) (xs : List Int) (w : World) (hs : IntsAt l w v xs) :
    Calls Try.prog 41 #[v] w fun e w' => e = .returned (.bool (allIn (-1) 99 xs)) ∧ w' = w := by
  go_enter Try.func41, Try.ntmps41
  go_wp2_with fail
  refine (within_ok (-1) 99 _ xs _ hs).mono ?_
  rintro e w' ⟨rfl, rfl⟩
  go_wp2
  go_ret
  exact ⟨rfl, rfl⟩

set_option maxRecDepth 100000 in
set_option maxHeartbeats 1000000 in
theorem implDfaOK_n1 {lo : Nat} (cv nv tv ev : Value) (d : DfaD) (w : World) (hs : DfaAt lo w cv nv tv ev d) (h : ¬d.classes.length = 256) :
    Calls Try.prog 12 #[.agg #[cv, .int .i64 d.width, nv, tv, ev]] w fun e w' => e = .returned (.bool (dfaB d)) ∧ Below w.heap.size w w' := by
  have hb0 : Below w.heap.size w (w.alloc (.cells #[cv, .int .i64 d.width, nv, tv, ev] 27)) := (Below.refl _ _).alloc (Nat.le_refl _) _
  have hs1 := hs.below hb0
  clear hb0
  obtain ⟨⟨ca, cc, rfl, cm, cx⟩, ⟨na, nc, rfl, nm, nx⟩, ⟨ta, tc, rfl, tm, tx⟩, ⟨ea, ec, rfl, em, ex⟩⟩ := hs
  clear cx nx tx ex
  have H : Hid (dfaB d = false) := by show _ = _; simp [dfaB, btw]; omega
  go_enter Try.func12, Try.ntmps12
  go_wp2
  go_ret
  exact ⟨ret_bool H.out.symm, (Below.refl _ _).alloc (Nat.le_refl _) _⟩

set_option maxRecDepth 100000 in
set_option maxHeartbeats 1000000 in
theorem implDfaOK_n2 {lo : Nat} (cv nv tv ev : Value) (d : DfaD) (w : World) (hs : DfaAt lo w cv nv tv ev d) (g1 : d.classes.length = 256) (h : d.width < 1) :
    Calls Try.prog 12 #[.agg #[cv, .int .i64 d.width, nv, tv, ev]] w fun e w' => e = .returned (.bool (dfaB d)) ∧ Below w.heap.size w w' := by
  have hb0 : Below w.heap.size w (w.alloc (.cells #[cv, .int .i64 d.width, nv, tv, ev] 27)) := (Below.refl _ _).alloc (Nat.le_refl _) _
  have hs1 := hs.below hb0
  clear hb0
  obtain ⟨⟨ca, cc, rfl, cm, cx⟩, ⟨na, nc, rfl, nm, nx⟩, ⟨ta, tc, rfl, tm, tx⟩, ⟨ea, ec, rfl, em, ex⟩⟩ := hs
  clear cx nx tx ex
  have H : Hid (dfaB d = false) := by show _ = _; simp [dfaB, btw]; omega
  go_enter Try.func12, Try.ntmps12
  go_wp2
  go_ret
  exact ⟨ret_bool H.out.symm, (Below.refl _ _).alloc (Nat.le_refl _) _⟩

set_option maxRecDepth 100000 in
set_option maxHeartbeats 1000000 in
theorem implDfaOK_n3 {lo : Nat} (cv nv tv ev : Value) (d : DfaD) (w : World) (hs : DfaAt lo w cv nv tv ev d) (g1 : d.classes.length = 256) (w1 : ¬d.width < 1) (h : 256 < d.width) :
    Calls Try.prog 12 #[.agg #[cv, .int .i64 d.width, nv, tv, ev]] w fun e w' => e = .returned (.bool (dfaB d)) ∧ Below w.heap.size w w' := by
  have hb0 : Below w.heap.size w (w.alloc (.cells #[cv, .int .i64 d.width, nv, tv, ev] 27)) := (Below.refl _ _).alloc (Nat.le_refl _) _
  have hs1 := hs.below hb0
  clear hb0
  obtain ⟨⟨ca, cc, rfl, cm, cx⟩, ⟨na, nc, rfl, nm, nx⟩, ⟨ta, tc, rfl, tm, tx⟩, ⟨ea, ec, rfl, em, ex⟩⟩ := hs
  clear cx nx tx ex
  have H : Hid (dfaB d = false) := by show _ = _; simp [dfaB, btw]; omega
  go_enter Try.func12, Try.ntmps12
  go_wp2
  go_ret
  exact ⟨ret_bool H.out.symm, (Below.refl _ _).alloc (Nat.le_refl _) _⟩

set_option maxRecDepth 100000 in
set_option maxHeartbeats 1000000 in
theorem implDfaOK_n4 {lo : Nat} (cv nv tv ev : Value) (d : DfaD) (w : World) (hs : DfaAt lo w cv nv tv ev d) (g1 : d.classes.length = 256) (w1 : ¬d.width < 1) (w2 : ¬256 < d.width) (h : (d.tag.length : Int) < 1) :
    Calls Try.prog 12 #[.agg #[cv, .int .i64 d.width, nv, tv, ev]] w fun e w' => e = .returned (.bool (dfaB d)) ∧ Below w.heap.size w w' := by
  have hb0 : Below w.heap.size w (w.alloc (.cells #[cv, .int .i64 d.width, nv, tv, ev] 27)) := (Below.refl _ _).alloc (Nat.le_refl _) _
  have hs1 := hs.below hb0
  clear hb0
  obtain ⟨⟨ca, cc, rfl, cm, cx⟩, ⟨na, nc, rfl, nm, nx⟩, ⟨ta, tc, rfl, tm, tx⟩, ⟨ea, ec, rfl, em, ex⟩⟩ := hs
  clear cx nx tx ex
  have H : Hid (dfaB d = false) := by show _ = _; simp [dfaB, btw]; omega
  go_enter Try.func12, Try.ntmps12
  go_wp2
  go_ret
  exact ⟨ret_bool H.out.symm, (Below.refl _ _).alloc (Nat.le_refl _) _⟩

set_option maxRecDepth 100000 in
set_option maxHeartbeats 1000000 in
theorem implDfaOK_n5 {lo : Nat} (cv nv tv ev : Value) (d : DfaD) (w : World) (hs : DfaAt lo w cv nv tv ev d) (g1 : d.classes.length = 256) (w1 : ¬d.width < 1) (w2 : ¬256 < d.width) (t1 : ¬(d.tag.length : Int) < 1) (h : 4000 < (d.tag.length : Int)) :
    Calls Try.prog 12 #[.agg #[cv, .int .i64 d.width, nv, tv, ev]] w fun e w' => e = .returned (.bool (dfaB d)) ∧ Below w.heap.size w w' := by
  have hb0 : Below w.heap.size w (w.alloc (.cells #[cv, .int .i64 d.width, nv, tv, ev] 27)) := (Below.refl _ _).alloc (Nat.le_refl _) _
  have hs1 := hs.below hb0
  clear hb0
  obtain ⟨⟨ca, cc, rfl, cm, cx⟩, ⟨na, nc, rfl, nm, nx⟩, ⟨ta, tc, rfl, tm, tx⟩, ⟨ea, ec, rfl, em, ex⟩⟩ := hs
  clear cx nx tx ex
  have H : Hid (dfaB d = false) := by show _ = _; simp [dfaB, btw]; omega
  go_enter Try.func12, Try.ntmps12
  go_wp2
  go_ret
  exact ⟨ret_bool H.out.symm, (Below.refl _ _).alloc (Nat.le_refl _) _⟩

set_option maxRecDepth 100000 in
set_option maxHeartbeats 1000000 in
theorem implDfaOK_n6 {lo : Nat} (cv nv tv ev : Value) (d : DfaD) (w : World) (hs : DfaAt lo w cv nv tv ev d) (g1 : d.classes.length = 256) (w1 : ¬d.width < 1) (w2 : ¬256 < d.width) (t1 : ¬(d.tag.length : Int) < 1) (t2 : ¬4000 < (d.tag.length : Int)) (h : ¬d.fin.length = d.tag.length) :
    Calls Try.prog 12 #[.agg #[cv, .int .i64 d.width, nv, tv, ev]] w fun e w' => e = .returned (.bool (dfaB d)) ∧ Below w.heap.size w w' := by
  have hb0 : Below w.heap.size w (w.alloc (.cells #[cv, .int .i64 d.width, nv, tv, ev] 27)) := (Below.refl _ _).alloc (Nat.le_refl _) _
  have hs1 := hs.below hb0
  clear hb0
  obtain ⟨⟨ca, cc, rfl, cm, cx⟩, ⟨na, nc, rfl, nm, nx⟩, ⟨ta, tc, rfl, tm, tx⟩, ⟨ea, ec, rfl, em, ex⟩⟩ := hs
  clear cx nx tx ex
  have hmul : (d.tag.length : Int) * d.width ≤ 4000 * 256 := Int.mul_le_mul (by omega) (by omega) (by omega) (by omega)
  have hmul0 : 0 ≤ (d.tag.length : Int) * d.width := Int.mul_nonneg (by omega) (by omega)
  have H : Hid (dfaB d = false) := by show _ = _; simp [dfaB, h]
  go_enter Try.func12, Try.ntmps12
  go_wp2
  go_ret
  exact ⟨ret_bool H.out.symm, (Below.refl _ _).alloc (Nat.le_refl _) _⟩

set_option maxRecDepth 100000 in
set_option maxHeartbeats 1000000 in
theorem implDfaOK_n7 {lo : Nat} (cv nv tv ev : Value) (d : DfaD) (w : World) (hs : DfaAt lo w cv nv tv ev d) (g1 : d.classes.length = 256) (w1 : ¬d.width < 1) (w2 : ¬256 < d.width) (t1 : ¬(d.tag.length : Int) < 1) (t2 : ¬4000 < (d.tag.length : Int)) (g4 : d.fin.length = d.tag.length) (h : ¬(d.next.length : Int) = d.tag.length * d.width) :
    Calls Try.prog 12 #[.agg #[cv, .int .i64 d.width, nv, tv, ev]] w fun e w' => e = .returned (.bool (dfaB d)) ∧ Below w.heap.size w w' := by
  have hb0 : Below w.heap.size w (w.alloc (.cells #[cv, .int .i64 d.width, nv, tv, ev] 27)) := (Below.refl _ _).alloc (Nat.le_refl _) _
  have hs1 := hs.below hb0
  clear hb0
  obtain ⟨⟨ca, cc, rfl, cm, cx⟩, ⟨na, nc, rfl, nm, nx⟩, ⟨ta, tc, rfl, tm, tx⟩, ⟨ea, ec, rfl, em, ex⟩⟩ := hs
  clear cx nx tx ex
  have hmul : (d.tag.length : Int) * d.width ≤ 4000 * 256 := Int.mul_le_mul (by omega) (by omega) (by omega) (by omega)
  have hmul0 : 0 ≤ (d.tag.length : Int) * d.width := Int.mul_nonneg (by omega) (by omega)
  have H : Hid (dfaB d = false) := by show _ = _; simp [dfaB, h]
  go_enter Try.func12, Try.ntmps12
  go_wp2
  go_ret
  exact ⟨ret_bool H.out.symm, (Below.refl _ _).alloc (Nat.le_refl _) _⟩

set_option maxRecDepth 100000 in
set_option maxHeartbeats 1000000 in
theorem implDfaOK_t {lo : Nat} (cv nv tv ev : Value) (d : DfaD) (w : World) (hs : DfaAt lo w cv nv tv ev d) (g1 : d.classes.length = 256) (w1 : ¬d.width < 1) (w2 : ¬256 < d.width) (t1 : ¬(d.tag.length : Int) < 1) (t2 : ¬4000 < (d.tag.length : Int)) (g4 : d.fin.length = d.tag.length) (g5 : (d.next.length : Int) = d.tag.length * d.width) :
    Calls Try.prog 12 #[.agg #[cv, .int .i64 d.width, nv, tv, ev]] w fun e w' => e = .returned (.bool (dfaB d)) ∧ Below w.heap.size w w' := by
  have hb0 : Below w.heap.size w (w.alloc (.cells #[cv, .int .i64 d.width, nv, tv, ev] 27)) := (Below.refl _ _).alloc (Nat.le_refl _) _
  have hs1 := hs.below hb0
  clear hb0
  obtain ⟨⟨ca, cc, rfl, cm, cx⟩, ⟨na, nc, rfl, nm, nx⟩, ⟨ta, tc, rfl, tm, tx⟩, ⟨ea, ec, rfl, em, ex⟩⟩ := hs
  clear cx nx tx ex
  have hmul : (d.tag.length : Int) * d.width ≤ 4000 * 256 := Int.mul_le_mul (by omega) (by omega) (by omega) (by omega)
  have hmul0 : 0 ≤ (d.tag.length : Int) * d.width := Int.mul_nonneg (by omega) (by omega)
  have b1 : ((d.classes.length : Int) != 256) = false := by simp [g1]
  have b4 : ((d.fin.length : Int) != d.tag.length) = false := by simp [g4]
  have b5 : ((d.next.length : Int) != d.tag.length * d.width) = false := by simp [g5]
  have H : Hid (dfaB d = (allIn 0 (d.width - 1) d.classes && allIn 0 (d.tag.length - 1) d.next && allIn (-1) 99 d.tag && allIn (-1) 99 d.fin)) := by
    show _ = _
    have e1 : btw d.width 1 256 = true := by simp [btw]; omega
    have e2 : btw d.tag.length 1 4000 = true := by simp [btw]; omega
    simp [dfaB, g1, g4, g5, e1, e2]
  clear g1 g4 g5
  go_enter Try.func12, Try.ntmps12
  go_wp2_with fail
  refine (within_ok _ _ _ d.classes _ hs1.classes).mono ?_
  rintro e w' ⟨rfl, rfl⟩
  cases g6 : allIn 0 (d.width - 1) d.classes
  case false =>
    rw [g6] at H
    go_wp2
    go_ret
    exact ⟨ret_bool (by rw [H.out]; simp), (Below.refl _ _).alloc (Nat.le_refl _) _⟩
  rw [g6] at H
  go_wp2_with fail
  refine (within_ok _ _ _ d.next _ hs1.next).mono ?_
  rintro e w' ⟨rfl, rfl⟩
  cases g7 : allIn 0 (d.tag.length - 1) d.next
  case false =>
    rw [g7] at H
    go_wp2
    go_ret
    exact ⟨ret_bool (by rw [H.out]; simp), (Below.refl _ _).alloc (Nat.le_refl _) _⟩
  rw [g7] at H
  go_wp2_with fail
  refine (answersOK_ok _ d.tag _ hs1.tag).mono ?_
  rintro e w' ⟨rfl, rfl⟩
  cases g8 : allIn (-1) 99 d.tag
  case false =>
    rw [g8] at H
    go_wp2
    go_ret
    exact ⟨ret_bool (by rw [H.out]; simp), (Below.refl _ _).alloc (Nat.le_refl _) _⟩
  rw [g8] at H
  go_wp2_with fail
  refine (answersOK_ok _ d.fin _ hs1.fin).mono ?_
  rintro e w' ⟨rfl, rfl⟩
  go_wp2
  go_ret
  exact ⟨ret_bool (by rw [H.out]; simp), (Below.refl _ _).alloc (Nat.le_refl _) _⟩

theorem implDfaOK_ok {lo : Nat} (cv nv tv ev : Value) (d : DfaD) (w : World) (hs : DfaAt lo w cv nv tv ev d) (_ : DfaSmall d) :
    Calls Try.prog 12 #[.agg #[cv, .int .i64 d.width, nv, tv, ev]] w fun e w' => e = .returned (.bool (dfaB d)) ∧ Below w.heap.size w w' := by
  by_cases g1 : d.classes.length = 256
  case neg => exact implDfaOK_n1 cv nv tv ev d w hs g1
  by_cases w1 : d.width < 1
  case pos => exact implDfaOK_n2 cv nv tv ev d w hs g1 w1
  by_cases w2 : 256 < d.width
  case pos => exact implDfaOK_n3 cv nv tv ev d w hs g1 w1 w2
  by_cases t1 : (d.tag.length : Int) < 1
  case pos => exact implDfaOK_n4 cv nv tv ev d w hs g1 w1 w2 t1
  by_cases t2 : 4000 < (d.tag.length : Int)
  case pos => exact implDfaOK_n5 cv nv tv ev d w hs g1 w1 w2 t1 t2
  by_cases g4 : d.fin.length = d.tag.length
  case neg => exact implDfaOK_n6 cv nv tv ev d w hs g1 w1 w2 t1 t2 g4
  by_cases g5 : (d.next.length : Int) = d.tag.length * d.width
  case neg => exact implDfaOK_n7 cv nv tv ev d w hs g1 w1 w2 t1 t2 g4 g5
  exact implDfaOK_t cv nv tv ev d w hs g1 w1 w2 t1 t2 g4 g5
end Go.Proofs.Ytmkcclapfgmicab
