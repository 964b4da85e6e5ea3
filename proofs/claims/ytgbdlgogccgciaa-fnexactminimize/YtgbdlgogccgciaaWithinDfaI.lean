import Derived.Test.YtgbdlgogccgciaaDfaS
namespace Go.Proofs.Ytgbdlgogccgciaa
open Go.RowKit

set_option maxRecDepth 100000 in
set_option maxHeartbeats 400000 in
theorem within_ok {l : Nat} (lo hi : Int) (v : Value) (xs : List Int) (w : World) (hs : IntsAt l w v xs) :
    Calls Try.prog 26 #[v, .int .i64 lo, .int .i64 hi] w fun e w' => e = .returned (.bool (allIn lo hi xs)) ∧ w' = w := by
  obtain ⟨ao, cap, rfl, hm, hc⟩ := hs
  go_enter Try.func26, Try.ntmps26
  go_wp2
  go_loop [11] (fun i => ∃ k : Nat, k ≤ xs.length ∧ i = .int .i64 k ∧ Hid (allIn lo hi xs = allIn lo hi (xs.drop k)))
    (fun i => xs.length - (intOf i).toNat)
  case atStart => exact ⟨0, Nat.zero_le _, rfl, rfl⟩
  case round =>
    obtain ⟨k, hk, rfl, HS⟩ := hrel
    by_cases hlt : k < xs.length
    · obtain ⟨b, o, x, rfl, Hn, hbl, c0⟩ := hc.elem (Below.refl _ _) hlt
      have HD : Hid _ := allIn_drop lo hi xs k hlt x Hn.out
      by_cases h1 : x < lo
      · have hb : Hid (btw x lo hi = false) := by show _ = _; simp [btw]; omega
        go_wp2
        go_ret
        exact ⟨ret_bool (by rw [HS.out, HD.out, hb.out, Bool.false_and]), rfl⟩
      by_cases h2 : hi < x
      · have hb : Hid (btw x lo hi = false) := by show _ = _; simp [btw]; omega
        go_wp2
        go_ret
        exact ⟨ret_bool (by rw [HS.out, HD.out, hb.out, Bool.false_and]), rfl⟩
      have hb : Hid (btw x lo hi = true) := by show _ = _; simp [btw]; omega
      go_wp2
      go_round
      case rel => exact ⟨k + 1, by omega, by go_num, by show _ = _; rw [HS.out, HD.out, hb.out, Bool.true_and]⟩
      case measure => simp [intOf]; omega
    · go_wp2
      go_ret
      exact ⟨ret_bool (by rw [HS.out, List.drop_eq_nil_of_le (by omega)]; rfl), rfl⟩

set_option maxHeartbeats 400000 in
theorem answersOK_ok {l : Nat} (v : Value) (xs : List Int) (w : World) (hs : IntsAt l w v xs) :
    Calls Try.prog 27 #[v] w fun e w' => e = .returned (.bool (allIn (-1) 99 xs)) ∧ w' = w := by
  go_enter Try.func27, Try.ntmps27
  go_wp2_with fail
  refine (within_ok (-1) 99 _ xs _ hs).mono ?_
  rintro e w' ⟨rfl, rfl⟩
  go_wp2
  go_ret
  exact ⟨rfl, rfl⟩

/-- What classesOK answers. -/
def clsB (xs : List Int) (wd : Int) : Bool := decide (xs.length = 256) && btw wd 1 256 && allIn 0 (wd - 1) xs

set_option maxRecDepth 100000 in
set_option maxHeartbeats 400000 in
theorem classesOK_ok {l : Nat} (v : Value) (xs : List Int) (wd : Int) (w : World) (hs : IntsAt l w v xs) :
    Calls Try.prog 25 #[v, .int .i64 wd] w fun e w' => e = .returned (.bool (clsB xs wd)) ∧ w' = w := by
  by_cases h1 : xs.length = 256
  case neg =>
    have H : Hid (clsB xs wd = false) := by show _ = _; simp [clsB, h1]
    obtain ⟨ao, cap, rfl, hm, hc⟩ := hs
    clear hc
    have b1 : ((xs.length : Int) == 256) = false := by simp; omega
    clear h1
    go_enter Try.func25, Try.ntmps25
    go_wp2
    go_ret
    exact ⟨ret_bool H.out.symm, rfl⟩
  have b1 : ((xs.length : Int) == 256) = true := by simp [h1]
  have hs1 := hs
  obtain ⟨ao, cap, rfl, hm, hc⟩ := hs
  clear hc
  by_cases h2 : 1 ≤ wd
  case neg =>
    have H : Hid (clsB xs wd = false) := by show _ = _; simp [clsB, btw, h2]
    clear h1
    go_enter Try.func25, Try.ntmps25
    go_wp2
    go_ret
    exact ⟨ret_bool H.out.symm, rfl⟩
  by_cases h3 : wd ≤ 256
  case neg =>
    have H : Hid (clsB xs wd = false) := by show _ = _; simp [clsB, btw, h3]
    clear h1
    go_enter Try.func25, Try.ntmps25
    go_wp2
    go_ret
    exact ⟨ret_bool H.out.symm, rfl⟩
  have H : Hid (clsB xs wd = allIn 0 (wd - 1) xs) := by show _ = _; simp [clsB, btw, h1, h2, h3]
  clear h1
  go_enter Try.func25, Try.ntmps25
  go_wp2_with fail
  refine (within_ok _ _ _ xs _ hs1).mono ?_
  rintro e w' ⟨rfl, rfl⟩
  go_wp2
  go_ret
  exact ⟨ret_bool H.out.symm, rfl⟩
end Go.Proofs.Ytgbdlgogccgciaa
namespace Go.Proofs.Ytgbdlgogccgciaa
open Go.RowKit

theorem dfaB_cls (d : DfaD) : dfaB d = (clsB d.classes d.width && (btw d.tag.length 1 4000 && decide (d.fin.length = d.tag.length) && decide ((d.next.length : Int) = d.tag.length * d.width) && (allIn 0 (d.tag.length - 1) d.next && allIn (-1) 99 d.tag && allIn (-1) 99 d.fin))) := by
  simp only [dfaB, clsB, Bool.and_assoc, Bool.and_comm, Bool.and_left_comm]
theorem clsB_width {xs : List Int} {wd : Int} (h : clsB xs wd = true) : 1 ≤ wd ∧ wd ≤ 256 := by
  simp only [clsB, Bool.and_eq_true, btw_iff] at h
  exact h.1.2

set_option maxRecDepth 100000 in
set_option maxHeartbeats 1000000 in
theorem implDfaOK_n1 {lo : Nat} (cv nv tv ev : Value) (d : DfaD) (w : World) (hs : DfaAt lo w cv nv tv ev d) (h : clsB d.classes d.width = false) :
    Calls Try.prog 18 #[.agg #[cv, .int .i64 d.width, nv, tv, ev]] w fun e w' => e = .returned (.bool (dfaB d)) ∧ Below w.heap.size w w' := by
  have hb0 : Below w.heap.size w (w.alloc (.cells #[cv, .int .i64 d.width, nv, tv, ev] 26)) := (Below.refl _ _).alloc (Nat.le_refl _) _
  have hs1 := hs.below hb0
  clear hb0
  obtain ⟨⟨ca, cc, rfl, cm, cx⟩, ⟨na, nc, rfl, nm, nx⟩, ⟨ta, tc, rfl, tm, tx⟩, ⟨ea, ec, rfl, em, ex⟩⟩ := hs
  clear cx nx tx ex
  have H : Hid (dfaB d = false) := by show _ = _; rw [dfaB_cls, h, Bool.false_and]
  go_enter Try.func18, Try.ntmps18
  go_wp2_with fail
  refine (classesOK_ok _ d.classes _ _ hs1.classes).mono ?_
  rintro e w' ⟨rfl, rfl⟩
  rw [h]
  go_wp2
  go_ret
  exact ⟨ret_bool H.out.symm, (Below.refl _ _).alloc (Nat.le_refl _) _⟩

set_option maxRecDepth 100000 in
set_option maxHeartbeats 1000000 in
theorem implDfaOK_n2 {lo : Nat} (cv nv tv ev : Value) (d : DfaD) (w : World) (hs : DfaAt lo w cv nv tv ev d) (g1 : clsB d.classes d.width = true) (h : (d.tag.length : Int) < 1) :
    Calls Try.prog 18 #[.agg #[cv, .int .i64 d.width, nv, tv, ev]] w fun e w' => e = .returned (.bool (dfaB d)) ∧ Below w.heap.size w w' := by
  have hb0 : Below w.heap.size w (w.alloc (.cells #[cv, .int .i64 d.width, nv, tv, ev] 26)) := (Below.refl _ _).alloc (Nat.le_refl _) _
  have hs1 := hs.below hb0
  clear hb0
  obtain ⟨⟨ca, cc, rfl, cm, cx⟩, ⟨na, nc, rfl, nm, nx⟩, ⟨ta, tc, rfl, tm, tx⟩, ⟨ea, ec, rfl, em, ex⟩⟩ := hs
  clear cx nx tx ex
  have hw := clsB_width g1
  have H : Hid (dfaB d = false) := by
    show _ = _
    have e : btw d.tag.length 1 4000 = false := by simp [btw]; omega
    rw [dfaB_cls, e]
    simp
  go_enter Try.func18, Try.ntmps18
  go_wp2_with fail
  refine (classesOK_ok _ d.classes _ _ hs1.classes).mono ?_
  rintro e w' ⟨rfl, rfl⟩
  rw [g1]
  go_wp2
  go_ret
  exact ⟨ret_bool H.out.symm, (Below.refl _ _).alloc (Nat.le_refl _) _⟩

set_option maxRecDepth 100000 in
set_option maxHeartbeats 1000000 in
theorem implDfaOK_n3 {lo : Nat} (cv nv tv ev : Value) (d : DfaD) (w : World) (hs : DfaAt lo w cv nv tv ev d) (g1 : clsB d.classes d.width = true) (t1 : ¬(d.tag.length : Int) < 1) (h : 4000 < (d.tag.length : Int)) :
    Calls Try.prog 18 #[.agg #[cv, .int .i64 d.width, nv, tv, ev]] w fun e w' => e = .returned (.bool (dfaB d)) ∧ Below w.heap.size w w' := by
  have hb0 : Below w.heap.size w (w.alloc (.cells #[cv, .int .i64 d.width, nv, tv, ev] 26)) := (Below.refl _ _).alloc (Nat.le_refl _) _
  have hs1 := hs.below hb0
  clear hb0
  obtain ⟨⟨ca, cc, rfl, cm, cx⟩, ⟨na, nc, rfl, nm, nx⟩, ⟨ta, tc, rfl, tm, tx⟩, ⟨ea, ec, rfl, em, ex⟩⟩ := hs
  clear cx nx tx ex
  have hw := clsB_width g1
  have H : Hid (dfaB d = false) := by
    show _ = _
    have e : btw d.tag.length 1 4000 = false := by simp [btw]; omega
    rw [dfaB_cls, e]
    simp
  go_enter Try.func18, Try.ntmps18
  go_wp2_with fail
  refine (classesOK_ok _ d.classes _ _ hs1.classes).mono ?_
  rintro e w' ⟨rfl, rfl⟩
  rw [g1]
  go_wp2
  go_ret
  exact ⟨ret_bool H.out.symm, (Below.refl _ _).alloc (Nat.le_refl _) _⟩

set_option maxRecDepth 100000 in
set_option maxHeartbeats 1000000 in
theorem implDfaOK_n4 {lo : Nat} (cv nv tv ev : Value) (d : DfaD) (w : World) (hs : DfaAt lo w cv nv tv ev d) (g1 : clsB d.classes d.width = true) (t1 : ¬(d.tag.length : Int) < 1) (t2 : ¬4000 < (d.tag.length : Int)) (h : ¬d.fin.length = d.tag.length) :
    Calls Try.prog 18 #[.agg #[cv, .int .i64 d.width, nv, tv, ev]] w fun e w' => e = .returned (.bool (dfaB d)) ∧ Below w.heap.size w w' := by
  have hb0 : Below w.heap.size w (w.alloc (.cells #[cv, .int .i64 d.width, nv, tv, ev] 26)) := (Below.refl _ _).alloc (Nat.le_refl _) _
  have hs1 := hs.below hb0
  clear hb0
  obtain ⟨⟨ca, cc, rfl, cm, cx⟩, ⟨na, nc, rfl, nm, nx⟩, ⟨ta, tc, rfl, tm, tx⟩, ⟨ea, ec, rfl, em, ex⟩⟩ := hs
  clear cx nx tx ex
  have hw := clsB_width g1
  have hmul : (d.tag.length : Int) * d.width ≤ 4000 * 256 := Int.mul_le_mul (by omega) (by omega) (by omega) (by omega)
  have hmul0 : 0 ≤ (d.tag.length : Int) * d.width := Int.mul_nonneg (by omega) (by omega)
  have H : Hid (dfaB d = false) := by show _ = _; rw [dfaB_cls]; simp [h]
  have b4 : ((d.fin.length : Int) != d.tag.length) = true := by simp; omega
  clear h
  go_enter Try.func18, Try.ntmps18
  go_wp2_with fail
  refine (classesOK_ok _ d.classes _ _ hs1.classes).mono ?_
  rintro e w' ⟨rfl, rfl⟩
  rw [g1]
  go_wp2
  go_ret
  exact ⟨ret_bool H.out.symm, (Below.refl _ _).alloc (Nat.le_refl _) _⟩

set_option maxRecDepth 100000 in
set_option maxHeartbeats 1000000 in
theorem implDfaOK_n5 {lo : Nat} (cv nv tv ev : Value) (d : DfaD) (w : World) (hs : DfaAt lo w cv nv tv ev d) (g1 : clsB d.classes d.width = true) (t1 : ¬(d.tag.length : Int) < 1) (t2 : ¬4000 < (d.tag.length : Int)) (g4 : d.fin.length = d.tag.length) (h : ¬(d.next.length : Int) = d.tag.length * d.width) :
    Calls Try.prog 18 #[.agg #[cv, .int .i64 d.width, nv, tv, ev]] w fun e w' => e = .returned (.bool (dfaB d)) ∧ Below w.heap.size w w' := by
  have hb0 : Below w.heap.size w (w.alloc (.cells #[cv, .int .i64 d.width, nv, tv, ev] 26)) := (Below.refl _ _).alloc (Nat.le_refl _) _
  have hs1 := hs.below hb0
  clear hb0
  obtain ⟨⟨ca, cc, rfl, cm, cx⟩, ⟨na, nc, rfl, nm, nx⟩, ⟨ta, tc, rfl, tm, tx⟩, ⟨ea, ec, rfl, em, ex⟩⟩ := hs
  clear cx nx tx ex
  have hw := clsB_width g1
  have hmul : (d.tag.length : Int) * d.width ≤ 4000 * 256 := Int.mul_le_mul (by omega) (by omega) (by omega) (by omega)
  have hmul0 : 0 ≤ (d.tag.length : Int) * d.width := Int.mul_nonneg (by omega) (by omega)
  have H : Hid (dfaB d = false) := by show _ = _; rw [dfaB_cls]; simp [h]
  have b4 : ((d.fin.length : Int) != d.tag.length) = false := by simp [g4]
  clear g4
  have b5 : ((d.next.length : Int) != d.tag.length * d.width) = true := by simp [h]
  clear h
  go_enter Try.func18, Try.ntmps18
  go_wp2_with fail
  refine (classesOK_ok _ d.classes _ _ hs1.classes).mono ?_
  rintro e w' ⟨rfl, rfl⟩
  rw [g1]
  go_wp2
  go_ret
  exact ⟨ret_bool H.out.symm, (Below.refl _ _).alloc (Nat.le_refl _) _⟩

set_option maxRecDepth 100000 in
set_option maxHeartbeats 1000000 in
theorem implDfaOK_t {lo : Nat} (cv nv tv ev : Value) (d : DfaD) (w : World) (hs : DfaAt lo w cv nv tv ev d) (g1 : clsB d.classes d.width = true) (t1 : ¬(d.tag.length : Int) < 1) (t2 : ¬4000 < (d.tag.length : Int)) (g4 : d.fin.length = d.tag.length) (g5 : (d.next.length : Int) = d.tag.length * d.width) :
    Calls Try.prog 18 #[.agg #[cv, .int .i64 d.width, nv, tv, ev]] w fun e w' => e = .returned (.bool (dfaB d)) ∧ Below w.heap.size w w' := by
  have hb0 : Below w.heap.size w (w.alloc (.cells #[cv, .int .i64 d.width, nv, tv, ev] 26)) := (Below.refl _ _).alloc (Nat.le_refl _) _
  have hs1 := hs.below hb0
  clear hb0
  obtain ⟨⟨ca, cc, rfl, cm, cx⟩, ⟨na, nc, rfl, nm, nx⟩, ⟨ta, tc, rfl, tm, tx⟩, ⟨ea, ec, rfl, em, ex⟩⟩ := hs
  clear cx nx tx ex
  have hw := clsB_width g1
  have hmul : (d.tag.length : Int) * d.width ≤ 4000 * 256 := Int.mul_le_mul (by omega) (by omega) (by omega) (by omega)
  have hmul0 : 0 ≤ (d.tag.length : Int) * d.width := Int.mul_nonneg (by omega) (by omega)
  have H : Hid (dfaB d = (allIn 0 (d.tag.length - 1) d.next && allIn (-1) 99 d.tag && allIn (-1) 99 d.fin)) := by
    show _ = _
    have e2 : btw d.tag.length 1 4000 = true := by simp [btw]; omega
    rw [dfaB_cls]
    simp [g1, g4, g5, e2]
  have b4 : ((d.fin.length : Int) != d.tag.length) = false := by simp [g4]
  clear g4
  have b5 : ((d.next.length : Int) != d.tag.length * d.width) = false := by simp [g5]
  clear g5
  go_enter Try.func18, Try.ntmps18
  go_wp2_with fail
  refine (classesOK_ok _ d.classes _ _ hs1.classes).mono ?_
  rintro e w' ⟨rfl, rfl⟩
  rw [g1]
  go_wp2_with fail
  refine (within_ok _ _ _ d.next _ hs1.next).mono ?_
  rintro e w' ⟨rfl, rfl⟩
  cases g7 : allIn 0 (d.tag.length - 1) d.next
  case false =>
    rw [g7] at H
    go_wp2
    go_ret
    exact ⟨ret_bool (by rw [H.out]; simp), (Below.refl _ _).alloc (Nat.le_refl _) _⟩
  rw [g7] at H
  go_wp2_with fail
  refine (answersOK_ok _ d.tag _ hs1.tag).mono ?_
  rintro e w' ⟨rfl, rfl⟩
  cases g8 : allIn (-1) 99 d.tag
  case false =>
    rw [g8] at H
    go_wp2
    go_ret
    exact ⟨ret_bool (by rw [H.out]; simp), (Below.refl _ _).alloc (Nat.le_refl _) _⟩
  rw [g8] at H
  go_wp2_with fail
  refine (answersOK_ok _ d.fin _ hs1.fin).mono ?_
  rintro e w' ⟨rfl, rfl⟩
  go_wp2
  go_ret
  exact ⟨ret_bool (by rw [H.out]; simp), (Below.refl _ _).alloc (Nat.le_refl _) _⟩

theorem implDfaOK_ok {lo : Nat} (cv nv tv ev : Value) (d : DfaD) (w : World) (hs : DfaAt lo w cv nv tv ev d) (_ : DfaSmall d) :
    Calls Try.prog 18 #[.agg #[cv, .int .i64 d.width, nv, tv, ev]] w fun e w' => e = .returned (.bool (dfaB d)) ∧ Below w.heap.size w w' := by
  cases g1 : clsB d.classes d.width
  case false => exact implDfaOK_n1 cv nv tv ev d w hs g1
  by_cases t1 : (d.tag.length : Int) < 1
  case pos => exact implDfaOK_n2 cv nv tv ev d w hs g1 t1
  by_cases t2 : 4000 < (d.tag.length : Int)
  case pos => exact implDfaOK_n3 cv nv tv ev d w hs g1 t1 t2
  by_cases g4 : d.fin.length = d.tag.length
  case neg => exact implDfaOK_n4 cv nv tv ev d w hs g1 t1 t2 g4
  by_cases g5 : (d.next.length : Int) = d.tag.length * d.width
  case neg => exact implDfaOK_n5 cv nv tv ev d w hs g1 t1 t2 g4 g5
  exact implDfaOK_t cv nv tv ev d w hs g1 t1 t2 g4 g5
end Go.Proofs.Ytgbdlgogccgciaa
