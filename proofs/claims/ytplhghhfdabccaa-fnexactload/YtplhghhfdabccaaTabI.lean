import Derived.Test.YtplhghhfdabccaaWithin
import Derived.Test.YtplhghhfdabccaaTabS
namespace Go.Proofs.Ytplhghhfdabccaa
open Go.RowKit

/-- What slotsOK answers. -/
def slotsB (d : TabD) : Bool := decide (d.next.length = d.chk.length) && decide (d.next.length ≤ 60000) && allIn (-1) (d.base.length - 1) d.chk && allIn 0 (d.base.length - 1) d.next && freeB d.chk d.next
theorem tabB_slots (d : TabD) : tabB d = (btw d.base.length 1 4000 && decide (d.dflt.length = d.base.length) && decide (d.tag.length = d.base.length) && decide (d.fin.length = d.base.length) &&
    (clsB d.classes d.width && allIn 0 59999 d.base && allIn 0 (d.base.length - 1) d.dflt && (allIn (-1) 99 d.tag && allIn (-1) 99 d.fin && slotsB d))) := by
  rw [Bool.eq_iff_iff]
  simp only [tabB, clsB, slotsB, Bool.and_eq_true]
  constructor
  · rintro ⟨⟨⟨⟨⟨⟨⟨⟨⟨a, b⟩, c⟩, e⟩, f⟩, g⟩, i⟩, j⟩, k⟩, l, ⟨⟨⟨⟨m, n⟩, o⟩, p⟩, q⟩, r⟩
    exact ⟨⟨⟨⟨e, f⟩, g⟩, i⟩, ⟨⟨⟨⟨a, b⟩, c⟩, m⟩, n⟩, ⟨o, p⟩, ⟨⟨⟨j, k⟩, q⟩, r⟩, l⟩
  · rintro ⟨⟨⟨⟨e, f⟩, g⟩, i⟩, ⟨⟨⟨⟨a, b⟩, c⟩, m⟩, n⟩, ⟨o, p⟩, ⟨⟨⟨j, k⟩, q⟩, r⟩, l⟩
    exact ⟨⟨⟨⟨⟨⟨⟨⟨⟨a, b⟩, c⟩, e⟩, f⟩, g⟩, i⟩, j⟩, k⟩, l, ⟨⟨⟨⟨m, n⟩, o⟩, p⟩, q⟩, r⟩

set_option maxRecDepth 100000 in
set_option maxHeartbeats 1000000 in
theorem slotsOK_n1 {lo : Nat} (cv bv fv tv ev nv kv : Value) (d : TabD) (w : World) (hs : TabAt lo w cv bv fv tv ev nv kv d) (_ : (d.base.length : Int) ≤ 4000) (h : ¬d.next.length = d.chk.length) :
    Calls Try.prog 70 #[.agg #[cv, .int .i64 d.width, bv, fv, tv, ev, nv, kv]] w fun e w' => e = .returned (.bool (slotsB d)) ∧ Below w.heap.size w w' := by
  have hb0 : Below w.heap.size w (w.alloc (.cells #[cv, .int .i64 d.width, bv, fv, tv, ev, nv, kv] 48)) := (Below.refl _ _).alloc (Nat.le_refl _) _
  have hs1 := hs.below hb0
  clear hb0
  obtain ⟨⟨a0, p0, rfl, m0, y0⟩, ⟨a1, p1, rfl, m1, y1⟩, ⟨a2, p2, rfl, m2, y2⟩, ⟨a3, p3, rfl, m3, y3⟩, ⟨a4, p4, rfl, m4, y4⟩, ⟨a5, p5, rfl, m5, y5⟩, ⟨a6, p6, rfl, m6, y6⟩⟩ := hs
  clear y0 y1 y2 y3 y4 y5 y6
  have H : Hid (slotsB d = false) := by show _ = _; simp [slotsB, h]
  have b1 : ((d.chk.length : Int) != d.next.length) = true := by simp; omega
  clear h
  go_enter Try.func70, Try.ntmps70
  go_wp2
  go_ret
  exact ⟨ret_bool H.out.symm, (Below.refl _ _).alloc (Nat.le_refl _) _⟩

set_option maxRecDepth 100000 in
set_option maxHeartbeats 1000000 in
theorem slotsOK_n2 {lo : Nat} (cv bv fv tv ev nv kv : Value) (d : TabD) (w : World) (hs : TabAt lo w cv bv fv tv ev nv kv d) (_ : (d.base.length : Int) ≤ 4000) (g1 : d.next.length = d.chk.length) (h : ¬d.next.length ≤ 60000) :
    Calls Try.prog 70 #[.agg #[cv, .int .i64 d.width, bv, fv, tv, ev, nv, kv]] w fun e w' => e = .returned (.bool (slotsB d)) ∧ Below w.heap.size w w' := by
  have hb0 : Below w.heap.size w (w.alloc (.cells #[cv, .int .i64 d.width, bv, fv, tv, ev, nv, kv] 48)) := (Below.refl _ _).alloc (Nat.le_refl _) _
  have hs1 := hs.below hb0
  clear hb0
  obtain ⟨⟨a0, p0, rfl, m0, y0⟩, ⟨a1, p1, rfl, m1, y1⟩, ⟨a2, p2, rfl, m2, y2⟩, ⟨a3, p3, rfl, m3, y3⟩, ⟨a4, p4, rfl, m4, y4⟩, ⟨a5, p5, rfl, m5, y5⟩, ⟨a6, p6, rfl, m6, y6⟩⟩ := hs
  clear y0 y1 y2 y3 y4 y5 y6
  have H : Hid (slotsB d = false) := by show _ = _; simp [slotsB, h]
  have b1 : ((d.chk.length : Int) != d.next.length) = false := by simp [g1]
  clear g1
  go_enter Try.func70, Try.ntmps70
  go_wp2
  go_ret
  exact ⟨ret_bool H.out.symm, (Below.refl _ _).alloc (Nat.le_refl _) _⟩

set_option maxRecDepth 100000 in
set_option maxHeartbeats 1000000 in
theorem slotsOK_t {lo : Nat} (cv bv fv tv ev nv kv : Value) (d : TabD) (w : World) (hs : TabAt lo w cv bv fv tv ev nv kv d) (hn : (d.base.length : Int) ≤ 4000) (g1 : d.next.length = d.chk.length) (g2 : d.next.length ≤ 60000) :
    Calls Try.prog 70 #[.agg #[cv, .int .i64 d.width, bv, fv, tv, ev, nv, kv]] w fun e w' => e = .returned (.bool (slotsB d)) ∧ Below w.heap.size w w' := by
  have hb0 : Below w.heap.size w (w.alloc (.cells #[cv, .int .i64 d.width, bv, fv, tv, ev, nv, kv] 48)) := (Below.refl _ _).alloc (Nat.le_refl _) _
  have hs1 := hs.below hb0
  clear hb0
  have H : Hid (slotsB d = (allIn (-1) (d.base.length - 1) d.chk && allIn 0 (d.base.length - 1) d.next && freeB d.chk d.next)) := by show _ = _; simp [slotsB, ← g1, g2]
  have b1 : ((d.chk.length : Int) != d.next.length) = false := by simp [g1]
  have Hlen : Hid (d.chk.length = d.next.length) := g1.symm
  clear g1
  obtain ⟨⟨a0, p0, rfl, m0, y0⟩, ⟨a1, p1, rfl, m1, y1⟩, ⟨a2, p2, rfl, m2, y2⟩, ⟨a3, p3, rfl, m3, y3⟩, ⟨a4, p4, rfl, m4, y4⟩, ⟨a5, p5, rfl, m5, y5⟩, ⟨a6, p6, rfl, m6, y6⟩⟩ := hs
  clear y0 y1 y2 y3 y4
  have hbA : Below w.heap.size w (w.alloc (.cells #[.slice a0 d.classes.length p0, .int .i64 d.width, .slice a1 d.base.length p1, .slice a2 d.dflt.length p2, .slice a3 d.tag.length p3, .slice a4 d.fin.length p4, .slice a5 d.next.length p5, .slice a6 d.chk.length p6] 48)) := (Below.refl _ _).alloc (Nat.le_refl _) _
  go_enter Try.func70, Try.ntmps70
  go_wp2_with fail
  refine (within_ok _ _ _ d.chk _ hs1.chk).mono ?_
  rintro e w' ⟨rfl, rfl⟩
  cases q1 : allIn (-1) (d.base.length - 1) d.chk
  case false =>
    rw [q1] at H
    go_wp2
    go_ret
    exact ⟨ret_bool (by rw [H.out]; simp), hbA⟩
  rw [q1] at H
  go_wp2_with fail
  refine (within_ok _ _ _ d.next _ hs1.next).mono ?_
  rintro e w' ⟨rfl, rfl⟩
  cases q2 : allIn 0 (d.base.length - 1) d.next
  case false =>
    rw [q2] at H
    go_wp2
    go_ret
    exact ⟨ret_bool (by rw [H.out]; simp), hbA⟩
  rw [q2] at H
  have H2 : Hid (slotsB d = freeB d.chk d.next) := by show _ = _; rw [H.out]; simp
  clear H hs1 q1 q2
  go_wp2
  go_loop [39] (fun i => ∃ k : Nat, k ≤ d.chk.length ∧ i = .int .i64 k ∧ Hid (slotsB d = freeB (d.chk.drop k) (d.next.drop k)))
    (fun i => d.chk.length - (intOf i).toNat)
  case atStart => exact ⟨0, Nat.zero_le _, rfl, H2.out⟩
  case round =>
    clear H2
    obtain ⟨k, hk, rfl, HS⟩ := hrel
    by_cases hlt : k < d.chk.length
    · have hlt2 : k < d.next.length := by have := Hlen.out; omega
      obtain ⟨b, o, x, rfl, Hn, hbl, c0⟩ := y6.elem hbA hlt
      obtain ⟨b2, o2, y, rfl, Hn2, hbl2, d0⟩ := y5.elem hbA hlt2
      have HD : Hid _ := freeB_drop d.chk d.next k hlt hlt2 x y Hn.out Hn2.out
      by_cases hx : x = -1
      · by_cases hy : y = 0
        · go_wp2
          go_round
          case rel => exact ⟨k + 1, by omega, by go_num, by show _ = _; rw [HS.out, HD.out]; simp [hx, hy]⟩
          case measure => simp [intOf]; omega
        · go_wp2
          go_ret
          exact ⟨ret_bool (by rw [HS.out, HD.out]; simp [hx, hy]), hbA⟩
      · have HE : Hid ((!(x == -1 && y != 0)) = true) := by show _ = _; simp [hx]
        go_wp2
        go_round
        case rel => exact ⟨k + 1, by omega, by go_num, by show _ = _; rw [HS.out, HD.out, HE.out, Bool.true_and]⟩
        case measure => simp [intOf]; omega
    · rw [freeB_end _ _ k (by omega)] at HS
      go_wp2
      go_ret
      exact ⟨ret_bool HS.out.symm, hbA⟩

theorem slotsOK_ok {lo : Nat} (cv bv fv tv ev nv kv : Value) (d : TabD) (w : World) (hs : TabAt lo w cv bv fv tv ev nv kv d) (hn : (d.base.length : Int) ≤ 4000) :
    Calls Try.prog 70 #[.agg #[cv, .int .i64 d.width, bv, fv, tv, ev, nv, kv]] w fun e w' => e = .returned (.bool (slotsB d)) ∧ Below w.heap.size w w' := by
  by_cases g1 : d.next.length = d.chk.length
  case neg => exact slotsOK_n1 cv bv fv tv ev nv kv d w hs hn g1
  by_cases g2 : d.next.length ≤ 60000
  case neg => exact slotsOK_n2 cv bv fv tv ev nv kv d w hs hn g1 g2
  exact slotsOK_t cv bv fv tv ev nv kv d w hs hn g1 g2

set_option maxRecDepth 100000 in
set_option maxHeartbeats 1000000 in
theorem implTableOK_n1 {lo : Nat} (cv bv fv tv ev nv kv : Value) (d : TabD) (w : World) (hs : TabAt lo w cv bv fv tv ev nv kv d) (h : (d.base.length : Int) < 1) :
    Calls Try.prog 29 #[.agg #[cv, .int .i64 d.width, bv, fv, tv, ev, nv, kv]] w fun e w' => e = .returned (.bool (tabB d)) ∧ Below w.heap.size w w' := by
  have hb0 : Below w.heap.size w (w.alloc (.cells #[cv, .int .i64 d.width, bv, fv, tv, ev, nv, kv] 48)) := (Below.refl _ _).alloc (Nat.le_refl _) _
  have hs1 := hs.below hb0
  clear hb0
  obtain ⟨⟨a0, p0, rfl, m0, y0⟩, ⟨a1, p1, rfl, m1, y1⟩, ⟨a2, p2, rfl, m2, y2⟩, ⟨a3, p3, rfl, m3, y3⟩, ⟨a4, p4, rfl, m4, y4⟩, ⟨a5, p5, rfl, m5, y5⟩, ⟨a6, p6, rfl, m6, y6⟩⟩ := hs
  clear y0 y1 y2 y3 y4 y5 y6
  have H : Hid (tabB d = false) := by
    show _ = _
    have e : btw d.base.length 1 4000 = false := by simp [btw]; omega
    rw [tabB_slots, e]
    simp
  go_enter Try.func29, Try.ntmps29
  go_wp2
  go_ret
  exact ⟨ret_bool H.out.symm, (Below.refl _ _).alloc (Nat.le_refl _) _⟩

set_option maxRecDepth 100000 in
set_option maxHeartbeats 1000000 in
theorem implTableOK_n2 {lo : Nat} (cv bv fv tv ev nv kv : Value) (d : TabD) (w : World) (hs : TabAt lo w cv bv fv tv ev nv kv d) (t1 : ¬(d.base.length : Int) < 1) (h : 4000 < (d.base.length : Int)) :
    Calls Try.prog 29 #[.agg #[cv, .int .i64 d.width, bv, fv, tv, ev, nv, kv]] w fun e w' => e = .returned (.bool (tabB d)) ∧ Below w.heap.size w w' := by
  have hb0 : Below w.heap.size w (w.alloc (.cells #[cv, .int .i64 d.width, bv, fv, tv, ev, nv, kv] 48)) := (Below.refl _ _).alloc (Nat.le_refl _) _
  have hs1 := hs.below hb0
  clear hb0
  obtain ⟨⟨a0, p0, rfl, m0, y0⟩, ⟨a1, p1, rfl, m1, y1⟩, ⟨a2, p2, rfl, m2, y2⟩, ⟨a3, p3, rfl, m3, y3⟩, ⟨a4, p4, rfl, m4, y4⟩, ⟨a5, p5, rfl, m5, y5⟩, ⟨a6, p6, rfl, m6, y6⟩⟩ := hs
  clear y0 y1 y2 y3 y4 y5 y6
  have H : Hid (tabB d = false) := by
    show _ = _
    have e : btw d.base.length 1 4000 = false := by simp [btw]; omega
    rw [tabB_slots, e]
    simp
  go_enter Try.func29, Try.ntmps29
  go_wp2
  go_ret
  exact ⟨ret_bool H.out.symm, (Below.refl _ _).alloc (Nat.le_refl _) _⟩

set_option maxRecDepth 100000 in
set_option maxHeartbeats 1000000 in
theorem implTableOK_n3 {lo : Nat} (cv bv fv tv ev nv kv : Value) (d : TabD) (w : World) (hs : TabAt lo w cv bv fv tv ev nv kv d) (t1 : ¬(d.base.length : Int) < 1) (t2 : ¬4000 < (d.base.length : Int)) (h : ¬d.dflt.length = d.base.length) :
    Calls Try.prog 29 #[.agg #[cv, .int .i64 d.width, bv, fv, tv, ev, nv, kv]] w fun e w' => e = .returned (.bool (tabB d)) ∧ Below w.heap.size w w' := by
  have hb0 : Below w.heap.size w (w.alloc (.cells #[cv, .int .i64 d.width, bv, fv, tv, ev, nv, kv] 48)) := (Below.refl _ _).alloc (Nat.le_refl _) _
  have hs1 := hs.below hb0
  clear hb0
  obtain ⟨⟨a0, p0, rfl, m0, y0⟩, ⟨a1, p1, rfl, m1, y1⟩, ⟨a2, p2, rfl, m2, y2⟩, ⟨a3, p3, rfl, m3, y3⟩, ⟨a4, p4, rfl, m4, y4⟩, ⟨a5, p5, rfl, m5, y5⟩, ⟨a6, p6, rfl, m6, y6⟩⟩ := hs
  clear y0 y1 y2 y3 y4 y5 y6
  have H : Hid (tabB d = false) := by show _ = _; rw [tabB_slots]; simp [h]
  have bh : ((d.dflt.length : Int) != d.base.length) = true := by simp; omega
  clear h
  go_enter Try.func29, Try.ntmps29
  go_wp2
  go_ret
  exact ⟨ret_bool H.out.symm, (Below.refl _ _).alloc (Nat.le_refl _) _⟩

set_option maxRecDepth 100000 in
set_option maxHeartbeats 1000000 in
theorem implTableOK_n4 {lo : Nat} (cv bv fv tv ev nv kv : Value) (d : TabD) (w : World) (hs : TabAt lo w cv bv fv tv ev nv kv d) (t1 : ¬(d.base.length : Int) < 1) (t2 : ¬4000 < (d.base.length : Int)) (g5 : d.dflt.length = d.base.length) (h : ¬d.tag.length = d.base.length) :
    Calls Try.prog 29 #[.agg #[cv, .int .i64 d.width, bv, fv, tv, ev, nv, kv]] w fun e w' => e = .returned (.bool (tabB d)) ∧ Below w.heap.size w w' := by
  have hb0 : Below w.heap.size w (w.alloc (.cells #[cv, .int .i64 d.width, bv, fv, tv, ev, nv, kv] 48)) := (Below.refl _ _).alloc (Nat.le_refl _) _
  have hs1 := hs.below hb0
  clear hb0
  obtain ⟨⟨a0, p0, rfl, m0, y0⟩, ⟨a1, p1, rfl, m1, y1⟩, ⟨a2, p2, rfl, m2, y2⟩, ⟨a3, p3, rfl, m3, y3⟩, ⟨a4, p4, rfl, m4, y4⟩, ⟨a5, p5, rfl, m5, y5⟩, ⟨a6, p6, rfl, m6, y6⟩⟩ := hs
  clear y0 y1 y2 y3 y4 y5 y6
  have H : Hid (tabB d = false) := by show _ = _; rw [tabB_slots]; simp [h]
  have bg5 : ((d.dflt.length : Int) != d.base.length) = false := by simp [g5]
  clear g5
  have bh : ((d.tag.length : Int) != d.base.length) = true := by simp; omega
  clear h
  go_enter Try.func29, Try.ntmps29
  go_wp2
  go_ret
  exact ⟨ret_bool H.out.symm, (Below.refl _ _).alloc (Nat.le_refl _) _⟩

set_option maxRecDepth 100000 in
set_option maxHeartbeats 1000000 in
theorem implTableOK_n5 {lo : Nat} (cv bv fv tv ev nv kv : Value) (d : TabD) (w : World) (hs : TabAt lo w cv bv fv tv ev nv kv d) (t1 : ¬(d.base.length : Int) < 1) (t2 : ¬4000 < (d.base.length : Int)) (g5 : d.dflt.length = d.base.length) (g6 : d.tag.length = d.base.length) (h : ¬d.fin.length = d.base.length) :
    Calls Try.prog 29 #[.agg #[cv, .int .i64 d.width, bv, fv, tv, ev, nv, kv]] w fun e w' => e = .returned (.bool (tabB d)) ∧ Below w.heap.size w w' := by
  have hb0 : Below w.heap.size w (w.alloc (.cells #[cv, .int .i64 d.width, bv, fv, tv, ev, nv, kv] 48)) := (Below.refl _ _).alloc (Nat.le_refl _) _
  have hs1 := hs.below hb0
  clear hb0
  obtain ⟨⟨a0, p0, rfl, m0, y0⟩, ⟨a1, p1, rfl, m1, y1⟩, ⟨a2, p2, rfl, m2, y2⟩, ⟨a3, p3, rfl, m3, y3⟩, ⟨a4, p4, rfl, m4, y4⟩, ⟨a5, p5, rfl, m5, y5⟩, ⟨a6, p6, rfl, m6, y6⟩⟩ := hs
  clear y0 y1 y2 y3 y4 y5 y6
  have H : Hid (tabB d = false) := by show _ = _; rw [tabB_slots]; simp [h]
  have bg5 : ((d.dflt.length : Int) != d.base.length) = false := by simp [g5]
  clear g5
  have bg6 : ((d.tag.length : Int) != d.base.length) = false := by simp [g6]
  clear g6
  have bh : ((d.fin.length : Int) != d.base.length) = true := by simp; omega
  clear h
  go_enter Try.func29, Try.ntmps29
  go_wp2
  go_ret
  exact ⟨ret_bool H.out.symm, (Below.refl _ _).alloc (Nat.le_refl _) _⟩

set_option maxRecDepth 100000 in
set_option maxHeartbeats 1000000 in
theorem implTableOK_t {lo : Nat} (cv bv fv tv ev nv kv : Value) (d : TabD) (w : World) (hs : TabAt lo w cv bv fv tv ev nv kv d) (t1 : ¬(d.base.length : Int) < 1) (t2 : ¬4000 < (d.base.length : Int)) (g5 : d.dflt.length = d.base.length) (g6 : d.tag.length = d.base.length) (g7 : d.fin.length = d.base.length) :
    Calls Try.prog 29 #[.agg #[cv, .int .i64 d.width, bv, fv, tv, ev, nv, kv]] w fun e w' => e = .returned (.bool (tabB d)) ∧ Below w.heap.size w w' := by
  have hb0 : Below w.heap.size w (w.alloc (.cells #[cv, .int .i64 d.width, bv, fv, tv, ev, nv, kv] 48)) := (Below.refl _ _).alloc (Nat.le_refl _) _
  have hs1 := hs.below hb0
  clear hb0
  obtain ⟨⟨a0, p0, rfl, m0, y0⟩, ⟨a1, p1, rfl, m1, y1⟩, ⟨a2, p2, rfl, m2, y2⟩, ⟨a3, p3, rfl, m3, y3⟩, ⟨a4, p4, rfl, m4, y4⟩, ⟨a5, p5, rfl, m5, y5⟩, ⟨a6, p6, rfl, m6, y6⟩⟩ := hs
  have H : Hid (tabB d = (clsB d.classes d.width && allIn 0 59999 d.base && allIn 0 (d.base.length - 1) d.dflt && (allIn (-1) 99 d.tag && allIn (-1) 99 d.fin && slotsB d))) := by
    show _ = _
    have e2 : btw d.base.length 1 4000 = true := by simp [btw]; omega
    rw [tabB_slots]
    simp [g5, g6, g7, e2]
  have hn : (d.base.length : Int) ≤ 4000 := by omega
  clear y0 y1 y2 y3 y4 y5 y6
  have bg5 : ((d.dflt.length : Int) != d.base.length) = false := by simp [g5]
  clear g5
  have bg6 : ((d.tag.length : Int) != d.base.length) = false := by simp [g6]
  clear g6
  have bg7 : ((d.fin.length : Int) != d.base.length) = false := by simp [g7]
  clear g7
  have r0 : (w.alloc (.cells #[.slice a0 d.classes.length p0, .int .i64 d.width, .slice a1 d.base.length p1, .slice a2 d.dflt.length p2, .slice a3 d.tag.length p3, .slice a4 d.fin.length p4, .slice a5 d.next.length p5, .slice a6 d.chk.length p6] 48)).heap[w.heap.size]? = some (.cells #[.slice a0 d.classes.length p0, .int .i64 d.width, .slice a1 d.base.length p1, .slice a2 d.dflt.length p2, .slice a3 d.tag.length p3, .slice a4 d.fin.length p4, .slice a5 d.next.length p5, .slice a6 d.chk.length p6] 48 (0, 0)) := heap_alloc_new _ _
  have hbA : Below w.heap.size w (w.alloc (.cells #[.slice a0 d.classes.length p0, .int .i64 d.width, .slice a1 d.base.length p1, .slice a2 d.dflt.length p2, .slice a3 d.tag.length p3, .slice a4 d.fin.length p4, .slice a5 d.next.length p5, .slice a6 d.chk.length p6] 48)) := (Below.refl _ _).alloc (Nat.le_refl _) _
  go_enter Try.func29, Try.ntmps29
  go_wp2_with fail
  refine (classesOK_ok _ d.classes _ _ hs1.classes).mono ?_
  rintro e w' ⟨rfl, rfl⟩
  cases q0 : clsB d.classes d.width
  case false =>
    rw [q0] at H
    go_wp2
    go_ret
    exact ⟨ret_bool (by rw [H.out]; simp), hbA⟩
  rw [q0] at H
  go_wp2_with fail
  refine (within_ok _ _ _ d.base _ hs1.base).mono ?_
  rintro e w' ⟨rfl, rfl⟩
  cases q1 : allIn 0 59999 d.base
  case false =>
    rw [q1] at H
    go_wp2
    go_ret
    exact ⟨ret_bool (by rw [H.out]; simp), hbA⟩
  rw [q1] at H
  go_wp2_with fail
  refine (within_ok _ _ _ d.dflt _ hs1.dflt).mono ?_
  rintro e w' ⟨rfl, rfl⟩
  cases q2 : allIn 0 (d.base.length - 1) d.dflt
  case false =>
    rw [q2] at H
    go_wp2
    go_ret
    exact ⟨ret_bool (by rw [H.out]; simp), hbA⟩
  rw [q2] at H
  go_wp2_with fail
  refine (answersOK_ok _ d.tag _ hs1.tag).mono ?_
  rintro e w' ⟨rfl, rfl⟩
  cases q3 : allIn (-1) 99 d.tag
  case false =>
    rw [q3] at H
    go_wp2
    go_ret
    exact ⟨ret_bool (by rw [H.out]; simp), hbA⟩
  rw [q3] at H
  go_wp2_with fail
  refine (answersOK_ok _ d.fin _ hs1.fin).mono ?_
  rintro e w' ⟨rfl, rfl⟩
  cases q4 : allIn (-1) 99 d.fin
  case false =>
    rw [q4] at H
    go_wp2
    go_ret
    exact ⟨ret_bool (by rw [H.out]; simp), hbA⟩
  rw [q4] at H
  go_wp2_with fail
  refine (slotsOK_ok _ _ _ _ _ _ _ d _ hs1 hn).mono ?_
  rintro e w2 ⟨rfl, hb2⟩
  go_wp2
  go_ret
  exact ⟨ret_bool (by rw [H.out]; simp), below_step hbA hbA.size hb2⟩

theorem implTableOK_ok {lo : Nat} (cv bv fv tv ev nv kv : Value) (d : TabD) (w : World) (hs : TabAt lo w cv bv fv tv ev nv kv d) (_ : TabSmall d) :
    Calls Try.prog 29 #[.agg #[cv, .int .i64 d.width, bv, fv, tv, ev, nv, kv]] w fun e w' => e = .returned (.bool (tabB d)) ∧ Below w.heap.size w w' := by
  by_cases t1 : (d.base.length : Int) < 1
  case pos => exact implTableOK_n1 cv bv fv tv ev nv kv d w hs t1
  by_cases t2 : 4000 < (d.base.length : Int)
  case pos => exact implTableOK_n2 cv bv fv tv ev nv kv d w hs t1 t2
  by_cases g5 : d.dflt.length = d.base.length
  case neg => exact implTableOK_n3 cv bv fv tv ev nv kv d w hs t1 t2 g5
  by_cases g6 : d.tag.length = d.base.length
  case neg => exact implTableOK_n4 cv bv fv tv ev nv kv d w hs t1 t2 g5 g6
  by_cases g7 : d.fin.length = d.base.length
  case neg => exact implTableOK_n5 cv bv fv tv ev nv kv d w hs t1 t2 g5 g6 g7
  exact implTableOK_t cv bv fv tv ev nv kv d w hs t1 t2 g5 g6 g7
end Go.Proofs.Ytplhghhfdabccaa
