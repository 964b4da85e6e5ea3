import Derived.Test.YtgbdlgogccgciaaDfaTo
namespace Go.Proofs.Ytgbdlgogccgciaa
open Go.RowKit

/-- What the document asks of an automaton. -/
def dfaB (d : DfaD) : Bool :=
  decide (d.classes.length = 256) && btw d.width 1 256 && btw d.tag.length 1 4000 && decide (d.fin.length = d.tag.length) && decide ((d.next.length : Int) = d.tag.length * d.width) &&
  allIn 0 (d.width - 1) d.classes && allIn 0 (d.tag.length - 1) d.next && allIn (-1) 99 d.tag && allIn (-1) 99 d.fin

theorem btw_iff {x a b : Int} : btw x a b = true ↔ a ≤ x ∧ x ≤ b := by simp [btw]

set_option maxRecDepth 100000 in
set_option maxHeartbeats 1000000 in
theorem specDfaOK_n1 {lo : Nat} (cv nv tv ev : Value) (d : DfaD) (w : World) (hs : DfaAt lo w cv nv tv ev d) (h : ¬d.classes.length = 256) :
    Calls Try.prog 12 #[.agg #[cv, .int .i64 d.width, nv, tv, ev]] w fun e w' => e = .returned (.bool (dfaB d)) ∧ Below w.heap.size w w' := by
  have hb0 : Below w.heap.size w (w.alloc (.cells #[cv, .int .i64 d.width, nv, tv, ev] 26)) := (Below.refl _ _).alloc (Nat.le_refl _) _
  have hs1 := hs.below hb0
  clear hb0
  obtain ⟨⟨ca, cc, rfl, cm, cx⟩, ⟨na, nc, rfl, nm, nx⟩, ⟨ta, tc, rfl, tm, tx⟩, ⟨ea, ec, rfl, em, ex⟩⟩ := hs
  clear cx nx tx ex
  have H : Hid (dfaB d = false) := by show _ = _; simp [dfaB, *]
  go_enter Try.func12, Try.ntmps12
  go_wp2_with (first | (go_at_call 23; refine (between_ok _ _ _ _).mono ?_; rintro e w' ⟨rfl, rfl⟩) | (go_at_call 24; (first | refine (l2All_ok _ _ _ d.classes _ hs1.classes).mono ?_ | refine (l2All_ok _ _ _ d.next _ hs1.next).mono ?_ | refine (l2All_ok _ _ _ d.tag _ hs1.tag).mono ?_ | refine (l2All_ok _ _ _ d.fin _ hs1.fin).mono ?_); rintro e w' ⟨rfl, rfl⟩))
  go_ret
  exact ⟨ret_bool H.out.symm, (Below.refl _ _).alloc (Nat.le_refl _) _⟩

set_option maxRecDepth 100000 in
set_option maxHeartbeats 1000000 in
theorem specDfaOK_n2 {lo : Nat} (cv nv tv ev : Value) (d : DfaD) (w : World) (hs : DfaAt lo w cv nv tv ev d) (g1 : d.classes.length = 256) (h : btw d.width 1 256 = false) :
    Calls Try.prog 12 #[.agg #[cv, .int .i64 d.width, nv, tv, ev]] w fun e w' => e = .returned (.bool (dfaB d)) ∧ Below w.heap.size w w' := by
  have hb0 : Below w.heap.size w (w.alloc (.cells #[cv, .int .i64 d.width, nv, tv, ev] 26)) := (Below.refl _ _).alloc (Nat.le_refl _) _
  have hs1 := hs.below hb0
  clear hb0
  obtain ⟨⟨ca, cc, rfl, cm, cx⟩, ⟨na, nc, rfl, nm, nx⟩, ⟨ta, tc, rfl, tm, tx⟩, ⟨ea, ec, rfl, em, ex⟩⟩ := hs
  clear cx nx tx ex
  have H : Hid (dfaB d = false) := by show _ = _; simp [dfaB, *]
  go_enter Try.func12, Try.ntmps12
  go_wp2_with (first | (go_at_call 23; refine (between_ok _ _ _ _).mono ?_; rintro e w' ⟨rfl, rfl⟩) | (go_at_call 24; (first | refine (l2All_ok _ _ _ d.classes _ hs1.classes).mono ?_ | refine (l2All_ok _ _ _ d.next _ hs1.next).mono ?_ | refine (l2All_ok _ _ _ d.tag _ hs1.tag).mono ?_ | refine (l2All_ok _ _ _ d.fin _ hs1.fin).mono ?_); rintro e w' ⟨rfl, rfl⟩))
  go_ret
  exact ⟨ret_bool H.out.symm, (Below.refl _ _).alloc (Nat.le_refl _) _⟩

set_option maxRecDepth 100000 in
set_option maxHeartbeats 1000000 in
theorem specDfaOK_n3 {lo : Nat} (cv nv tv ev : Value) (d : DfaD) (w : World) (hs : DfaAt lo w cv nv tv ev d) (g1 : d.classes.length = 256) (g2 : btw d.width 1 256 = true) (h : btw d.tag.length 1 4000 = false) :
    Calls Try.prog 12 #[.agg #[cv, .int .i64 d.width, nv, tv, ev]] w fun e w' => e = .returned (.bool (dfaB d)) ∧ Below w.heap.size w w' := by
  have hb0 : Below w.heap.size w (w.alloc (.cells #[cv, .int .i64 d.width, nv, tv, ev] 26)) := (Below.refl _ _).alloc (Nat.le_refl _) _
  have hs1 := hs.below hb0
  clear hb0
  obtain ⟨⟨ca, cc, rfl, cm, cx⟩, ⟨na, nc, rfl, nm, nx⟩, ⟨ta, tc, rfl, tm, tx⟩, ⟨ea, ec, rfl, em, ex⟩⟩ := hs
  clear cx nx tx ex
  have H : Hid (dfaB d = false) := by show _ = _; simp [dfaB, *]
  go_enter Try.func12, Try.ntmps12
  go_wp2_with (first | (go_at_call 23; refine (between_ok _ _ _ _).mono ?_; rintro e w' ⟨rfl, rfl⟩) | (go_at_call 24; (first | refine (l2All_ok _ _ _ d.classes _ hs1.classes).mono ?_ | refine (l2All_ok _ _ _ d.next _ hs1.next).mono ?_ | refine (l2All_ok _ _ _ d.tag _ hs1.tag).mono ?_ | refine (l2All_ok _ _ _ d.fin _ hs1.fin).mono ?_); rintro e w' ⟨rfl, rfl⟩))
  go_ret
  exact ⟨ret_bool H.out.symm, (Below.refl _ _).alloc (Nat.le_refl _) _⟩

set_option maxRecDepth 100000 in
set_option maxHeartbeats 1000000 in
theorem specDfaOK_n4 {lo : Nat} (cv nv tv ev : Value) (d : DfaD) (w : World) (hs : DfaAt lo w cv nv tv ev d) (g1 : d.classes.length = 256) (g2 : btw d.width 1 256 = true) (g3 : btw d.tag.length 1 4000 = true) (h : ¬d.fin.length = d.tag.length) :
    Calls Try.prog 12 #[.agg #[cv, .int .i64 d.width, nv, tv, ev]] w fun e w' => e = .returned (.bool (dfaB d)) ∧ Below w.heap.size w w' := by
  have hb0 : Below w.heap.size w (w.alloc (.cells #[cv, .int .i64 d.width, nv, tv, ev] 26)) := (Below.refl _ _).alloc (Nat.le_refl _) _
  have hs1 := hs.below hb0
  clear hb0
  obtain ⟨⟨ca, cc, rfl, cm, cx⟩, ⟨na, nc, rfl, nm, nx⟩, ⟨ta, tc, rfl, tm, tx⟩, ⟨ea, ec, rfl, em, ex⟩⟩ := hs
  clear cx nx tx ex
  have hw := btw_iff.1 g2
  have ht := btw_iff.1 g3
  have hmul : (d.tag.length : Int) * d.width ≤ 4000 * 256 := Int.mul_le_mul (by omega) (by omega) (by omega) (by omega)
  have hmul0 : 0 ≤ (d.tag.length : Int) * d.width := Int.mul_nonneg (by omega) (by omega)
  have H : Hid (dfaB d = false) := by show _ = _; simp [dfaB, *]
  go_enter Try.func12, Try.ntmps12
  go_wp2_with (first | (go_at_call 23; refine (between_ok _ _ _ _).mono ?_; rintro e w' ⟨rfl, rfl⟩) | (go_at_call 24; (first | refine (l2All_ok _ _ _ d.classes _ hs1.classes).mono ?_ | refine (l2All_ok _ _ _ d.next _ hs1.next).mono ?_ | refine (l2All_ok _ _ _ d.tag _ hs1.tag).mono ?_ | refine (l2All_ok _ _ _ d.fin _ hs1.fin).mono ?_); rintro e w' ⟨rfl, rfl⟩))
  go_ret
  exact ⟨ret_bool H.out.symm, (Below.refl _ _).alloc (Nat.le_refl _) _⟩

set_option maxRecDepth 100000 in
set_option maxHeartbeats 1000000 in
theorem specDfaOK_n5 {lo : Nat} (cv nv tv ev : Value) (d : DfaD) (w : World) (hs : DfaAt lo w cv nv tv ev d) (g1 : d.classes.length = 256) (g2 : btw d.width 1 256 = true) (g3 : btw d.tag.length 1 4000 = true) (g4 : d.fin.length = d.tag.length) (h : ¬(d.next.length : Int) = d.tag.length * d.width) :
    Calls Try.prog 12 #[.agg #[cv, .int .i64 d.width, nv, tv, ev]] w fun e w' => e = .returned (.bool (dfaB d)) ∧ Below w.heap.size w w' := by
  have hb0 : Below w.heap.size w (w.alloc (.cells #[cv, .int .i64 d.width, nv, tv, ev] 26)) := (Below.refl _ _).alloc (Nat.le_refl _) _
  have hs1 := hs.below hb0
  clear hb0
  obtain ⟨⟨ca, cc, rfl, cm, cx⟩, ⟨na, nc, rfl, nm, nx⟩, ⟨ta, tc, rfl, tm, tx⟩, ⟨ea, ec, rfl, em, ex⟩⟩ := hs
  clear cx nx tx ex
  have hw := btw_iff.1 g2
  have ht := btw_iff.1 g3
  have hmul : (d.tag.length : Int) * d.width ≤ 4000 * 256 := Int.mul_le_mul (by omega) (by omega) (by omega) (by omega)
  have hmul0 : 0 ≤ (d.tag.length : Int) * d.width := Int.mul_nonneg (by omega) (by omega)
  have H : Hid (dfaB d = false) := by show _ = _; simp [dfaB, *]
  go_enter Try.func12, Try.ntmps12
  go_wp2_with (first | (go_at_call 23; refine (between_ok _ _ _ _).mono ?_; rintro e w' ⟨rfl, rfl⟩) | (go_at_call 24; (first | refine (l2All_ok _ _ _ d.classes _ hs1.classes).mono ?_ | refine (l2All_ok _ _ _ d.next _ hs1.next).mono ?_ | refine (l2All_ok _ _ _ d.tag _ hs1.tag).mono ?_ | refine (l2All_ok _ _ _ d.fin _ hs1.fin).mono ?_); rintro e w' ⟨rfl, rfl⟩))
  go_ret
  exact ⟨ret_bool H.out.symm, (Below.refl _ _).alloc (Nat.le_refl _) _⟩

set_option maxRecDepth 100000 in
set_option maxHeartbeats 1000000 in
theorem specDfaOK_t {lo : Nat} (cv nv tv ev : Value) (d : DfaD) (w : World) (hs : DfaAt lo w cv nv tv ev d) (g1 : d.classes.length = 256) (g2 : btw d.width 1 256 = true) (g3 : btw d.tag.length 1 4000 = true) (g4 : d.fin.length = d.tag.length) (g5 : (d.next.length : Int) = d.tag.length * d.width) :
    Calls Try.prog 12 #[.agg #[cv, .int .i64 d.width, nv, tv, ev]] w fun e w' => e = .returned (.bool (dfaB d)) ∧ Below w.heap.size w w' := by
  have hb0 : Below w.heap.size w (w.alloc (.cells #[cv, .int .i64 d.width, nv, tv, ev] 26)) := (Below.refl _ _).alloc (Nat.le_refl _) _
  have hs1 := hs.below hb0
  clear hb0
  obtain ⟨⟨ca, cc, rfl, cm, cx⟩, ⟨na, nc, rfl, nm, nx⟩, ⟨ta, tc, rfl, tm, tx⟩, ⟨ea, ec, rfl, em, ex⟩⟩ := hs
  clear cx nx tx ex
  have hw := btw_iff.1 g2
  have ht := btw_iff.1 g3
  have hmul : (d.tag.length : Int) * d.width ≤ 4000 * 256 := Int.mul_le_mul (by omega) (by omega) (by omega) (by omega)
  have hmul0 : 0 ≤ (d.tag.length : Int) * d.width := Int.mul_nonneg (by omega) (by omega)
  have b1 : ((d.classes.length : Int) != 256) = false := by simp [g1]
  have b4 : ((d.fin.length : Int) != d.tag.length) = false := by simp [g4]
  have b5 : ((d.next.length : Int) != d.tag.length * d.width) = false := by simp [g5]
  have H : Hid (dfaB d = (allIn 0 (d.width - 1) d.classes && allIn 0 (d.tag.length - 1) d.next && allIn (-1) 99 d.tag && allIn (-1) 99 d.fin)) := by show _ = _; simp [dfaB, *]
  clear g1 g4 g5
  go_enter Try.func12, Try.ntmps12
  go_wp2_with (go_at_call 23; refine (between_ok _ _ _ _).mono ?_; rintro e w' ⟨rfl, rfl⟩)
  refine (l2All_ok _ _ _ d.classes _ hs1.classes).mono ?_
  rintro e w' ⟨rfl, rfl⟩
  cases g6 : allIn 0 (d.width - 1) d.classes
  case false =>
    rw [g6] at H
    go_wp2
    go_ret
    exact ⟨ret_bool (by rw [H.out]; simp), (Below.refl _ _).alloc (Nat.le_refl _) _⟩
  rw [g6] at H
  go_wp2_with fail
  refine (l2All_ok _ _ _ d.next _ hs1.next).mono ?_
  rintro e w' ⟨rfl, rfl⟩
  cases g7 : allIn 0 (d.tag.length - 1) d.next
  case false =>
    rw [g7] at H
    go_wp2
    go_ret
    exact ⟨ret_bool (by rw [H.out]; simp), (Below.refl _ _).alloc (Nat.le_refl _) _⟩
  rw [g7] at H
  go_wp2_with fail
  refine (l2All_ok _ _ _ d.tag _ hs1.tag).mono ?_
  rintro e w' ⟨rfl, rfl⟩
  cases g8 : allIn (-1) 99 d.tag
  case false =>
    rw [g8] at H
    go_wp2
    go_ret
    exact ⟨ret_bool (by rw [H.out]; simp), (Below.refl _ _).alloc (Nat.le_refl _) _⟩
  rw [g8] at H
  go_wp2_with fail
  refine (l2All_ok _ _ _ d.fin _ hs1.fin).mono ?_
  rintro e w' ⟨rfl, rfl⟩
  go_wp2
  go_ret
  exact ⟨ret_bool (by rw [H.out]; simp), (Below.refl _ _).alloc (Nat.le_refl _) _⟩

theorem specDfaOK_ok {lo : Nat} (cv nv tv ev : Value) (d : DfaD) (w : World) (hs : DfaAt lo w cv nv tv ev d) :
    Calls Try.prog 12 #[.agg #[cv, .int .i64 d.width, nv, tv, ev]] w fun e w' => e = .returned (.bool (dfaB d)) ∧ Below w.heap.size w w' := by
  by_cases g1 : d.classes.length = 256
  case neg => exact specDfaOK_n1 cv nv tv ev d w hs g1
  cases g2 : btw d.width 1 256
  case false => exact specDfaOK_n2 cv nv tv ev d w hs g1 g2
  cases g3 : btw d.tag.length 1 4000
  case false => exact specDfaOK_n3 cv nv tv ev d w hs g1 g2 g3
  by_cases g4 : d.fin.length = d.tag.length
  case neg => exact specDfaOK_n4 cv nv tv ev d w hs g1 g2 g3 g4
  by_cases g5 : (d.next.length : Int) = d.tag.length * d.width
  case neg => exact specDfaOK_n5 cv nv tv ev d w hs g1 g2 g3 g4 g5
  exact specDfaOK_t cv nv tv ev d w hs g1 g2 g3 g4 g5
end Go.Proofs.Ytgbdlgogccgciaa
