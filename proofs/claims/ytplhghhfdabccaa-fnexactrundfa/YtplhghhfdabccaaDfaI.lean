import Derived.Test.YtplhghhfdabccaaWithin
namespace Go.Proofs.Ytplhghhfdabccaa
open Go.RowKit

theorem dfaB_cls (d : DfaD) : dfaB d = (clsB d.classes d.width && (btw d.tag.length 1 4000 && decide (d.fin.length = d.tag.length) && decide ((d.next.length : Int) = d.tag.length * d.width) && (allIn 0 (d.tag.length - 1) d.next && allIn (-1) 99 d.tag && allIn (-1) 99 d.fin))) := by
  simp only [dfaB, clsB, Bool.and_assoc, Bool.and_comm, Bool.and_left_comm]
theorem clsB_width {xs : List Int} {wd : Int} (h : clsB xs wd = true) : 1 ≤ wd ∧ wd ≤ 256 := by
  simp only [clsB, Bool.and_eq_true, btw_iff] at h
  exact h.1.2

set_option maxRecDepth 100000 in
set_option maxHeartbeats 1000000 in
theorem implDfaOK_n1 {lo : Nat} (cv nv tv ev : Value) (d : DfaD) (w : World) (hs : DfaAt lo w cv nv tv ev d) (h : clsB d.classes d.width = false) :
    Calls Try.prog 22 #[.agg #[cv, .int .i64 d.width, nv, tv, ev]] w fun e w' => e = .returned (.bool (dfaB d)) ∧ Below w.heap.size w w' := by
  have hb0 : Below w.heap.size w (w.alloc (.cells #[cv, .int .i64 d.width, nv, tv, ev] 38)) := (Below.refl _ _).alloc (Nat.le_refl _) _
  have hs1 := hs.below hb0
  clear hb0
  obtain ⟨⟨ca, cc, rfl, cm, cx⟩, ⟨na, nc, rfl, nm, nx⟩, ⟨ta, tc, rfl, tm, tx⟩, ⟨ea, ec, rfl, em, ex⟩⟩ := hs
  clear cx nx tx ex
  have H : Hid (dfaB d = false) := by show _ = _; rw [dfaB_cls, h, Bool.false_and]
  go_enter Try.func22, Try.ntmps22
  go_wp2_with fail
  refine (classesOK_ok _ d.classes _ _ hs1.classes).mono ?_
  rintro e w' ⟨rfl, rfl⟩
  rw [h]
  go_wp2
  go_ret
  exact ⟨ret_bool H.out.symm, (Below.refl _ _).alloc (Nat.le_refl _) _⟩

set_option maxRecDepth 100000 in
set_option maxHeartbeats 1000000 in
theorem implDfaOK_n2 {lo : Nat} (cv nv tv ev : Value) (d : DfaD) (w : World) (hs : DfaAt lo w cv nv tv ev d) (g1 : clsB d.classes d.width = true) (h : (d.tag.length : Int) < 1) :
    Calls Try.prog 22 #[.agg #[cv, .int .i64 d.width, nv, tv, ev]] w fun e w' => e = .returned (.bool (dfaB d)) ∧ Below w.heap.size w w' := by
  have hb0 : Below w.heap.size w (w.alloc (.cells #[cv, .int .i64 d.width, nv, tv, ev] 38)) := (Below.refl _ _).alloc (Nat.le_refl _) _
  have hs1 := hs.below hb0
  clear hb0
  obtain ⟨⟨ca, cc, rfl, cm, cx⟩, ⟨na, nc, rfl, nm, nx⟩, ⟨ta, tc, rfl, tm, tx⟩, ⟨ea, ec, rfl, em, ex⟩⟩ := hs
  clear cx nx tx ex
  have hw := clsB_width g1
  have H : Hid (dfaB d = false) := by
    show _ = _
    have e : btw d.tag.length 1 4000 = false := by simp [btw]; omega
    rw [dfaB_cls, e]
    simp
  go_enter Try.func22, Try.ntmps22
  go_wp2_with fail
  refine (classesOK_ok _ d.classes _ _ hs1.classes).mono ?_
  rintro e w' ⟨rfl, rfl⟩
  rw [g1]
  go_wp2
  go_ret
  exact ⟨ret_bool H.out.symm, (Below.refl _ _).alloc (Nat.le_refl _) _⟩

set_option maxRecDepth 100000 in
set_option maxHeartbeats 1000000 in
theorem implDfaOK_n3 {lo : Nat} (cv nv tv ev : Value) (d : DfaD) (w : World) (hs : DfaAt lo w cv nv tv ev d) (g1 : clsB d.classes d.width = true) (t1 : ¬(d.tag.length : Int) < 1) (h : 4000 < (d.tag.length : Int)) :
    Calls Try.prog 22 #[.agg #[cv, .int .i64 d.width, nv, tv, ev]] w fun e w' => e = .returned (.bool (dfaB d)) ∧ Below w.heap.size w w' := by
  have hb0 : Below w.heap.size w (w.alloc (.cells #[cv, .int .i64 d.width, nv, tv, ev] 38)) := (Below.refl _ _).alloc (Nat.le_refl _) _
  have hs1 := hs.below hb0
  clear hb0
  obtain ⟨⟨ca, cc, rfl, cm, cx⟩, ⟨na, nc, rfl, nm, nx⟩, ⟨ta, tc, rfl, tm, tx⟩, ⟨ea, ec, rfl, em, ex⟩⟩ := hs
  clear cx nx tx ex
  have hw := clsB_width g1
  have H : Hid (dfaB d = false) := by
    show _ = _
    have e : btw d.tag.length 1 4000 = false := by simp [btw]; omega
    rw [dfaB_cls, e]
    simp
  go_enter Try.func22, Try.ntmps22
  go_wp2_with fail
  refine (classesOK_ok _ d.classes _ _ hs1.classes).mono ?_
  rintro e w' ⟨rfl, rfl⟩
  rw [g1]
  go_wp2
  go_ret
  exact ⟨ret_bool H.out.symm, (Below.refl _ _).alloc (Nat.le_refl _) _⟩

set_option maxRecDepth 100000 in
set_option maxHeartbeats 1000000 in
theorem implDfaOK_n4 {lo : Nat} (cv nv tv ev : Value) (d : DfaD) (w : World) (hs : DfaAt lo w cv nv tv ev d) (g1 : clsB d.classes d.width = true) (t1 : ¬(d.tag.length : Int) < 1) (t2 : ¬4000 < (d.tag.length : Int)) (h : ¬d.fin.length = d.tag.length) :
    Calls Try.prog 22 #[.agg #[cv, .int .i64 d.width, nv, tv, ev]] w fun e w' => e = .returned (.bool (dfaB d)) ∧ Below w.heap.size w w' := by
  have hb0 : Below w.heap.size w (w.alloc (.cells #[cv, .int .i64 d.width, nv, tv, ev] 38)) := (Below.refl _ _).alloc (Nat.le_refl _) _
  have hs1 := hs.below hb0
  clear hb0
  obtain ⟨⟨ca, cc, rfl, cm, cx⟩, ⟨na, nc, rfl, nm, nx⟩, ⟨ta, tc, rfl, tm, tx⟩, ⟨ea, ec, rfl, em, ex⟩⟩ := hs
  clear cx nx tx ex
  have hw := clsB_width g1
  have hmul : (d.tag.length : Int) * d.width ≤ 4000 * 256 := Int.mul_le_mul (by omega) (by omega) (by omega) (by omega)
  have hmul0 : 0 ≤ (d.tag.length : Int) * d.width := Int.mul_nonneg (by omega) (by omega)
  have H : Hid (dfaB d = false) := by show _ = _; rw [dfaB_cls]; simp [h]
  have b4 : ((d.fin.length : Int) != d.tag.length) = true := by simp; omega
  clear h
  go_enter Try.func22, Try.ntmps22
  go_wp2_with fail
  refine (classesOK_ok _ d.classes _ _ hs1.classes).mono ?_
  rintro e w' ⟨rfl, rfl⟩
  rw [g1]
  go_wp2
  go_ret
  exact ⟨ret_bool H.out.symm, (Below.refl _ _).alloc (Nat.le_refl _) _⟩

set_option maxRecDepth 100000 in
set_option maxHeartbeats 1000000 in
theorem implDfaOK_n5 {lo : Nat} (cv nv tv ev : Value) (d : DfaD) (w : World) (hs : DfaAt lo w cv nv tv ev d) (g1 : clsB d.classes d.width = true) (t1 : ¬(d.tag.length : Int) < 1) (t2 : ¬4000 < (d.tag.length : Int)) (g4 : d.fin.length = d.tag.length) (h : ¬(d.next.length : Int) = d.tag.length * d.width) :
    Calls Try.prog 22 #[.agg #[cv, .int .i64 d.width, nv, tv, ev]] w fun e w' => e = .returned (.bool (dfaB d)) ∧ Below w.heap.size w w' := by
  have hb0 : Below w.heap.size w (w.alloc (.cells #[cv, .int .i64 d.width, nv, tv, ev] 38)) := (Below.refl _ _).alloc (Nat.le_refl _) _
  have hs1 := hs.below hb0
  clear hb0
  obtain ⟨⟨ca, cc, rfl, cm, cx⟩, ⟨na, nc, rfl, nm, nx⟩, ⟨ta, tc, rfl, tm, tx⟩, ⟨ea, ec, rfl, em, ex⟩⟩ := hs
  clear cx nx tx ex
  have hw := clsB_width g1
  have hmul : (d.tag.length : Int) * d.width ≤ 4000 * 256 := Int.mul_le_mul (by omega) (by omega) (by omega) (by omega)
  have hmul0 : 0 ≤ (d.tag.length : Int) * d.width := Int.mul_nonneg (by omega) (by omega)
  have H : Hid (dfaB d = false) := by show _ = _; rw [dfaB_cls]; simp [h]
  have b4 : ((d.fin.length : Int) != d.tag.length) = false := by simp [g4]
  clear g4
  have b5 : ((d.next.length : Int) != d.tag.length * d.width) = true := by simp [h]
  clear h
  go_enter Try.func22, Try.ntmps22
  go_wp2_with fail
  refine (classesOK_ok _ d.classes _ _ hs1.classes).mono ?_
  rintro e w' ⟨rfl, rfl⟩
  rw [g1]
  go_wp2
  go_ret
  exact ⟨ret_bool H.out.symm, (Below.refl _ _).alloc (Nat.le_refl _) _⟩

set_option maxRecDepth 100000 in
set_option maxHeartbeats 1000000 in
theorem implDfaOK_t {lo : Nat} (cv nv tv ev : Value) (d : DfaD) (w : World) (hs : DfaAt lo w cv nv tv ev d) (g1 : clsB d.classes d.width = true) (t1 : ¬(d.tag.length : Int) < 1) (t2 : ¬4000 < (d.tag.length : Int)) (g4 : d.fin.length = d.tag.length) (g5 : (d.next.length : Int) = d.tag.length * d.width) :
    Calls Try.prog 22 #[.agg #[cv, .int .i64 d.width, nv, tv, ev]] w fun e w' => e = .returned (.bool (dfaB d)) ∧ Below w.heap.size w w' := by
  have hb0 : Below w.heap.size w (w.alloc (.cells #[cv, .int .i64 d.width, nv, tv, ev] 38)) := (Below.refl _ _).alloc (Nat.le_refl _) _
  have hs1 := hs.below hb0
  clear hb0
  obtain ⟨⟨ca, cc, rfl, cm, cx⟩, ⟨na, nc, rfl, nm, nx⟩, ⟨ta, tc, rfl, tm, tx⟩, ⟨ea, ec, rfl, em, ex⟩⟩ := hs
  clear cx nx tx ex
  have hw := clsB_width g1
  have hmul : (d.tag.length : Int) * d.width ≤ 4000 * 256 := Int.mul_le_mul (by omega) (by omega) (by omega) (by omega)
  have hmul0 : 0 ≤ (d.tag.length : Int) * d.width := Int.mul_nonneg (by omega) (by omega)
  have H : Hid (dfaB d = (allIn 0 (d.tag.length - 1) d.next && allIn (-1) 99 d.tag && allIn (-1) 99 d.fin)) := by
    show _ = _
    have e2 : btw d.tag.length 1 4000 = true := by simp [btw]; omega
    rw [dfaB_cls]
    simp [g1, g4, g5, e2]
  have b4 : ((d.fin.length : Int) != d.tag.length) = false := by simp [g4]
  clear g4
  have b5 : ((d.next.length : Int) != d.tag.length * d.width) = false := by simp [g5]
  clear g5
  go_enter Try.func22, Try.ntmps22
  go_wp2_with fail
  refine (classesOK_ok _ d.classes _ _ hs1.classes).mono ?_
  rintro e w' ⟨rfl, rfl⟩
  rw [g1]
  go_wp2_with fail
  refine (within_ok _ _ _ d.next _ hs1.next).mono ?_
  rintro e w' ⟨rfl, rfl⟩
  cases g7 : allIn 0 (d.tag.length - 1) d.next
  case false =>
    rw [g7] at H
    go_wp2
    go_ret
    exact ⟨ret_bool (by rw [H.out]; simp), (Below.refl _ _).alloc (Nat.le_refl _) _⟩
  rw [g7] at H
  go_wp2_with fail
  refine (answersOK_ok _ d.tag _ hs1.tag).mono ?_
  rintro e w' ⟨rfl, rfl⟩
  cases g8 : allIn (-1) 99 d.tag
  case false =>
    rw [g8] at H
    go_wp2
    go_ret
    exact ⟨ret_bool (by rw [H.out]; simp), (Below.refl _ _).alloc (Nat.le_refl _) _⟩
  rw [g8] at H
  go_wp2_with fail
  refine (answersOK_ok _ d.fin _ hs1.fin).mono ?_
  rintro e w' ⟨rfl, rfl⟩
  go_wp2
  go_ret
  exact ⟨ret_bool (by rw [H.out]; simp), (Below.refl _ _).alloc (Nat.le_refl _) _⟩

theorem implDfaOK_ok {lo : Nat} (cv nv tv ev : Value) (d : DfaD) (w : World) (hs : DfaAt lo w cv nv tv ev d) (_ : DfaSmall d) :
    Calls Try.prog 22 #[.agg #[cv, .int .i64 d.width, nv, tv, ev]] w fun e w' => e = .returned (.bool (dfaB d)) ∧ Below w.heap.size w w' := by
  cases g1 : clsB d.classes d.width
  case false => exact implDfaOK_n1 cv nv tv ev d w hs g1
  by_cases t1 : (d.tag.length : Int) < 1
  case pos => exact implDfaOK_n2 cv nv tv ev d w hs g1 t1
  by_cases t2 : 4000 < (d.tag.length : Int)
  case pos => exact implDfaOK_n3 cv nv tv ev d w hs g1 t1 t2
  by_cases g4 : d.fin.length = d.tag.length
  case neg => exact implDfaOK_n4 cv nv tv ev d w hs g1 t1 t2 g4
  by_cases g5 : (d.next.length : Int) = d.tag.length * d.width
  case neg => exact implDfaOK_n5 cv nv tv ev d w hs g1 t1 t2 g4 g5
  exact implDfaOK_t cv nv tv ev d w hs g1 t1 t2 g4 g5
end Go.Proofs.Ytplhghhfdabccaa
