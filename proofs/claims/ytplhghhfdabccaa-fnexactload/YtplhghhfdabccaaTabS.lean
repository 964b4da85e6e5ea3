import Derived.Test.YtplhghhfdabccaaTabTo
namespace Go.Proofs.Ytplhghhfdabccaa
open Go.RowKit

/-- A slot that nobody owns leads to 0. -/
def freeB : List Int → List Int → Bool
  | k :: ks, n :: ns => (!(k == -1 && n != 0)) && freeB ks ns
  | _, _ => true
theorem freeB_drop (ks ns : List Int) (k : Nat) (hk : k < ks.length) (hn : k < ns.length) (x y : Int) (hx : ks.getD k 0 = x) (hy : ns.getD k 0 = y) : freeB (ks.drop k) (ns.drop k) = ((!(x == -1 && y != 0)) && freeB (ks.drop (k + 1)) (ns.drop (k + 1))) := by
  rw [List.drop_eq_getElem_cons hk, List.drop_eq_getElem_cons hn]
  have h1 : ks[k] = x := by rw [← hx]; simp [List.getD, hk]
  have h2 : ns[k] = y := by rw [← hy]; simp [List.getD, hn]
  rw [freeB, h1, h2]
theorem freeB_end (ks ns : List Int) (k : Nat) (hk : ks.length ≤ k) : freeB (ks.drop k) (ns.drop k) = true := by
  rw [List.drop_eq_nil_of_le hk]; rfl
def tabB (d : TabD) : Bool :=
  decide (d.classes.length = 256) && btw d.width 1 256 && allIn 0 (d.width - 1) d.classes && btw d.base.length 1 4000 && decide (d.dflt.length = d.base.length) && decide (d.tag.length = d.base.length) && decide (d.fin.length = d.base.length) &&
  decide (d.next.length = d.chk.length) && decide (d.next.length ≤ 60000) && (freeB d.chk d.next && (allIn 0 59999 d.base && allIn 0 (d.base.length - 1) d.dflt && allIn (-1) 99 d.tag && allIn (-1) 99 d.fin && allIn (-1) (d.base.length - 1) d.chk && allIn 0 (d.base.length - 1) d.next))

set_option maxRecDepth 100000 in
set_option maxHeartbeats 1000000 in
theorem specTableOK_n1 {lo : Nat} (cv bv fv tv ev nv kv : Value) (d : TabD) (w : World) (hs : TabAt lo w cv bv fv tv ev nv kv d) (h : ¬d.classes.length = 256) :
    Calls Try.prog 27 #[.agg #[cv, .int .i64 d.width, bv, fv, tv, ev, nv, kv]] w fun e w' => e = .returned (.bool (tabB d)) ∧ Below w.heap.size w w' := by
  have hb0 : Below w.heap.size w (w.alloc (.cells #[cv, .int .i64 d.width, bv, fv, tv, ev, nv, kv] 48)) := (Below.refl _ _).alloc (Nat.le_refl _) _
  have hs1 := hs.below hb0
  clear hb0
  obtain ⟨⟨a0, p0, rfl, m0, y0⟩, ⟨a1, p1, rfl, m1, y1⟩, ⟨a2, p2, rfl, m2, y2⟩, ⟨a3, p3, rfl, m3, y3⟩, ⟨a4, p4, rfl, m4, y4⟩, ⟨a5, p5, rfl, m5, y5⟩, ⟨a6, p6, rfl, m6, y6⟩⟩ := hs
  clear y0 y1 y2 y3 y4 y5 y6
  have H : Hid (tabB d = false) := by show _ = _; simp [tabB, h]
  go_enter Try.func27, Try.ntmps27
  go_wp2_with (first | (go_at_call 54; refine (between_ok _ _ _ _).mono ?_; rintro e w' ⟨rfl, rfl⟩) | (go_at_call 62; refine (l2All_ok _ _ _ d.classes _ hs1.classes).mono ?_; rintro e w' ⟨rfl, rfl⟩))
  go_ret
  exact ⟨ret_bool H.out.symm, (Below.refl _ _).alloc (Nat.le_refl _) _⟩

set_option maxRecDepth 100000 in
set_option maxHeartbeats 1000000 in
theorem specTableOK_n2 {lo : Nat} (cv bv fv tv ev nv kv : Value) (d : TabD) (w : World) (hs : TabAt lo w cv bv fv tv ev nv kv d) (g1 : d.classes.length = 256) (h : btw d.width 1 256 = false) :
    Calls Try.prog 27 #[.agg #[cv, .int .i64 d.width, bv, fv, tv, ev, nv, kv]] w fun e w' => e = .returned (.bool (tabB d)) ∧ Below w.heap.size w w' := by
  have hb0 : Below w.heap.size w (w.alloc (.cells #[cv, .int .i64 d.width, bv, fv, tv, ev, nv, kv] 48)) := (Below.refl _ _).alloc (Nat.le_refl _) _
  have hs1 := hs.below hb0
  clear hb0
  obtain ⟨⟨a0, p0, rfl, m0, y0⟩, ⟨a1, p1, rfl, m1, y1⟩, ⟨a2, p2, rfl, m2, y2⟩, ⟨a3, p3, rfl, m3, y3⟩, ⟨a4, p4, rfl, m4, y4⟩, ⟨a5, p5, rfl, m5, y5⟩, ⟨a6, p6, rfl, m6, y6⟩⟩ := hs
  clear y0 y1 y2 y3 y4 y5 y6
  have H : Hid (tabB d = false) := by show _ = _; simp [tabB, h]
  have b1 : ((d.classes.length : Int) != 256) = false := by simp [g1]
  clear g1
  go_enter Try.func27, Try.ntmps27
  go_wp2_with (first | (go_at_call 54; refine (between_ok _ _ _ _).mono ?_; rintro e w' ⟨rfl, rfl⟩) | (go_at_call 62; refine (l2All_ok _ _ _ d.classes _ hs1.classes).mono ?_; rintro e w' ⟨rfl, rfl⟩))
  go_ret
  exact ⟨ret_bool H.out.symm, (Below.refl _ _).alloc (Nat.le_refl _) _⟩

set_option maxRecDepth 100000 in
set_option maxHeartbeats 1000000 in
theorem specTableOK_n3 {lo : Nat} (cv bv fv tv ev nv kv : Value) (d : TabD) (w : World) (hs : TabAt lo w cv bv fv tv ev nv kv d) (g1 : d.classes.length = 256) (g2 : btw d.width 1 256 = true) (h : allIn 0 (d.width - 1) d.classes = false) :
    Calls Try.prog 27 #[.agg #[cv, .int .i64 d.width, bv, fv, tv, ev, nv, kv]] w fun e w' => e = .returned (.bool (tabB d)) ∧ Below w.heap.size w w' := by
  have hb0 : Below w.heap.size w (w.alloc (.cells #[cv, .int .i64 d.width, bv, fv, tv, ev, nv, kv] 48)) := (Below.refl _ _).alloc (Nat.le_refl _) _
  have hs1 := hs.below hb0
  clear hb0
  obtain ⟨⟨a0, p0, rfl, m0, y0⟩, ⟨a1, p1, rfl, m1, y1⟩, ⟨a2, p2, rfl, m2, y2⟩, ⟨a3, p3, rfl, m3, y3⟩, ⟨a4, p4, rfl, m4, y4⟩, ⟨a5, p5, rfl, m5, y5⟩, ⟨a6, p6, rfl, m6, y6⟩⟩ := hs
  clear y0 y1 y2 y3 y4 y5 y6
  have H : Hid (tabB d = false) := by show _ = _; simp [tabB, h]
  have b1 : ((d.classes.length : Int) != 256) = false := by simp [g1]
  clear g1
  have hw := btw_iff.1 g2
  go_enter Try.func27, Try.ntmps27
  go_wp2_with (first | (go_at_call 54; refine (between_ok _ _ _ _).mono ?_; rintro e w' ⟨rfl, rfl⟩) | (go_at_call 62; refine (l2All_ok _ _ _ d.classes _ hs1.classes).mono ?_; rintro e w' ⟨rfl, rfl⟩))
  go_ret
  exact ⟨ret_bool H.out.symm, (Below.refl _ _).alloc (Nat.le_refl _) _⟩

set_option maxRecDepth 100000 in
set_option maxHeartbeats 1000000 in
theorem specTableOK_n4 {lo : Nat} (cv bv fv tv ev nv kv : Value) (d : TabD) (w : World) (hs : TabAt lo w cv bv fv tv ev nv kv d) (g1 : d.classes.length = 256) (g2 : btw d.width 1 256 = true) (g3 : allIn 0 (d.width - 1) d.classes = true) (h : btw d.base.length 1 4000 = false) :
    Calls Try.prog 27 #[.agg #[cv, .int .i64 d.width, bv, fv, tv, ev, nv, kv]] w fun e w' => e = .returned (.bool (tabB d)) ∧ Below w.heap.size w w' := by
  have hb0 : Below w.heap.size w (w.alloc (.cells #[cv, .int .i64 d.width, bv, fv, tv, ev, nv, kv] 48)) := (Below.refl _ _).alloc (Nat.le_refl _) _
  have hs1 := hs.below hb0
  clear hb0
  obtain ⟨⟨a0, p0, rfl, m0, y0⟩, ⟨a1, p1, rfl, m1, y1⟩, ⟨a2, p2, rfl, m2, y2⟩, ⟨a3, p3, rfl, m3, y3⟩, ⟨a4, p4, rfl, m4, y4⟩, ⟨a5, p5, rfl, m5, y5⟩, ⟨a6, p6, rfl, m6, y6⟩⟩ := hs
  clear y0 y1 y2 y3 y4 y5 y6
  have H : Hid (tabB d = false) := by show _ = _; simp [tabB, h]
  have b1 : ((d.classes.length : Int) != 256) = false := by simp [g1]
  clear g1
  have hw := btw_iff.1 g2
  go_enter Try.func27, Try.ntmps27
  go_wp2_with (first | (go_at_call 54; refine (between_ok _ _ _ _).mono ?_; rintro e w' ⟨rfl, rfl⟩) | (go_at_call 62; refine (l2All_ok _ _ _ d.classes _ hs1.classes).mono ?_; rintro e w' ⟨rfl, rfl⟩))
  go_ret
  exact ⟨ret_bool H.out.symm, (Below.refl _ _).alloc (Nat.le_refl _) _⟩

set_option maxRecDepth 100000 in
set_option maxHeartbeats 1000000 in
theorem specTableOK_n5 {lo : Nat} (cv bv fv tv ev nv kv : Value) (d : TabD) (w : World) (hs : TabAt lo w cv bv fv tv ev nv kv d) (g1 : d.classes.length = 256) (g2 : btw d.width 1 256 = true) (g3 : allIn 0 (d.width - 1) d.classes = true) (g4 : btw d.base.length 1 4000 = true) (h : ¬d.dflt.length = d.base.length) :
    Calls Try.prog 27 #[.agg #[cv, .int .i64 d.width, bv, fv, tv, ev, nv, kv]] w fun e w' => e = .returned (.bool (tabB d)) ∧ Below w.heap.size w w' := by
  have hb0 : Below w.heap.size w (w.alloc (.cells #[cv, .int .i64 d.width, bv, fv, tv, ev, nv, kv] 48)) := (Below.refl _ _).alloc (Nat.le_refl _) _
  have hs1 := hs.below hb0
  clear hb0
  obtain ⟨⟨a0, p0, rfl, m0, y0⟩, ⟨a1, p1, rfl, m1, y1⟩, ⟨a2, p2, rfl, m2, y2⟩, ⟨a3, p3, rfl, m3, y3⟩, ⟨a4, p4, rfl, m4, y4⟩, ⟨a5, p5, rfl, m5, y5⟩, ⟨a6, p6, rfl, m6, y6⟩⟩ := hs
  clear y0 y1 y2 y3 y4 y5 y6
  have H : Hid (tabB d = false) := by show _ = _; simp [tabB, h]
  have b1 : ((d.classes.length : Int) != 256) = false := by simp [g1]
  clear g1
  have hw := btw_iff.1 g2
  have ht := btw_iff.1 g4
  go_enter Try.func27, Try.ntmps27
  go_wp2_with (first | (go_at_call 54; refine (between_ok _ _ _ _).mono ?_; rintro e w' ⟨rfl, rfl⟩) | (go_at_call 62; refine (l2All_ok _ _ _ d.classes _ hs1.classes).mono ?_; rintro e w' ⟨rfl, rfl⟩))
  go_ret
  exact ⟨ret_bool H.out.symm, (Below.refl _ _).alloc (Nat.le_refl _) _⟩

set_option maxRecDepth 100000 in
set_option maxHeartbeats 1000000 in
theorem specTableOK_n6 {lo : Nat} (cv bv fv tv ev nv kv : Value) (d : TabD) (w : World) (hs : TabAt lo w cv bv fv tv ev nv kv d) (g1 : d.classes.length = 256) (g2 : btw d.width 1 256 = true) (g3 : allIn 0 (d.width - 1) d.classes = true) (g4 : btw d.base.length 1 4000 = true) (g5 : d.dflt.length = d.base.length) (h : ¬d.tag.length = d.base.length) :
    Calls Try.prog 27 #[.agg #[cv, .int .i64 d.width, bv, fv, tv, ev, nv, kv]] w fun e w' => e = .returned (.bool (tabB d)) ∧ Below w.heap.size w w' := by
  have hb0 : Below w.heap.size w (w.alloc (.cells #[cv, .int .i64 d.width, bv, fv, tv, ev, nv, kv] 48)) := (Below.refl _ _).alloc (Nat.le_refl _) _
  have hs1 := hs.below hb0
  clear hb0
  obtain ⟨⟨a0, p0, rfl, m0, y0⟩, ⟨a1, p1, rfl, m1, y1⟩, ⟨a2, p2, rfl, m2, y2⟩, ⟨a3, p3, rfl, m3, y3⟩, ⟨a4, p4, rfl, m4, y4⟩, ⟨a5, p5, rfl, m5, y5⟩, ⟨a6, p6, rfl, m6, y6⟩⟩ := hs
  clear y0 y1 y2 y3 y4 y5 y6
  have H : Hid (tabB d = false) := by show _ = _; simp [tabB, h]
  have b1 : ((d.classes.length : Int) != 256) = false := by simp [g1]
  have b5 : ((d.dflt.length : Int) != d.base.length) = false := by simp [g5]
  clear g1 g5
  have hw := btw_iff.1 g2
  have ht := btw_iff.1 g4
  go_enter Try.func27, Try.ntmps27
  go_wp2_with (first | (go_at_call 54; refine (between_ok _ _ _ _).mono ?_; rintro e w' ⟨rfl, rfl⟩) | (go_at_call 62; refine (l2All_ok _ _ _ d.classes _ hs1.classes).mono ?_; rintro e w' ⟨rfl, rfl⟩))
  go_ret
  exact ⟨ret_bool H.out.symm, (Below.refl _ _).alloc (Nat.le_refl _) _⟩

set_option maxRecDepth 100000 in
set_option maxHeartbeats 1000000 in
theorem specTableOK_n7 {lo : Nat} (cv bv fv tv ev nv kv : Value) (d : TabD) (w : World) (hs : TabAt lo w cv bv fv tv ev nv kv d) (g1 : d.classes.length = 256) (g2 : btw d.width 1 256 = true) (g3 : allIn 0 (d.width - 1) d.classes = true) (g4 : btw d.base.length 1 4000 = true) (g5 : d.dflt.length = d.base.length) (g6 : d.tag.length = d.base.length) (h : ¬d.fin.length = d.base.length) :
    Calls Try.prog 27 #[.agg #[cv, .int .i64 d.width, bv, fv, tv, ev, nv, kv]] w fun e w' => e = .returned (.bool (tabB d)) ∧ Below w.heap.size w w' := by
  have hb0 : Below w.heap.size w (w.alloc (.cells #[cv, .int .i64 d.width, bv, fv, tv, ev, nv, kv] 48)) := (Below.refl _ _).alloc (Nat.le_refl _) _
  have hs1 := hs.below hb0
  clear hb0
  obtain ⟨⟨a0, p0, rfl, m0, y0⟩, ⟨a1, p1, rfl, m1, y1⟩, ⟨a2, p2, rfl, m2, y2⟩, ⟨a3, p3, rfl, m3, y3⟩, ⟨a4, p4, rfl, m4, y4⟩, ⟨a5, p5, rfl, m5, y5⟩, ⟨a6, p6, rfl, m6, y6⟩⟩ := hs
  clear y0 y1 y2 y3 y4 y5 y6
  have H : Hid (tabB d = false) := by show _ = _; simp [tabB, h]
  have b1 : ((d.classes.length : Int) != 256) = false := by simp [g1]
  have b5 : ((d.dflt.length : Int) != d.base.length) = false := by simp [g5]
  have b6 : ((d.tag.length : Int) != d.base.length) = false := by simp [g6]
  clear g1 g5 g6
  have hw := btw_iff.1 g2
  have ht := btw_iff.1 g4
  go_enter Try.func27, Try.ntmps27
  go_wp2_with (first | (go_at_call 54; refine (between_ok _ _ _ _).mono ?_; rintro e w' ⟨rfl, rfl⟩) | (go_at_call 62; refine (l2All_ok _ _ _ d.classes _ hs1.classes).mono ?_; rintro e w' ⟨rfl, rfl⟩))
  go_ret
  exact ⟨ret_bool H.out.symm, (Below.refl _ _).alloc (Nat.le_refl _) _⟩

set_option maxRecDepth 100000 in
set_option maxHeartbeats 1000000 in
theorem specTableOK_n8 {lo : Nat} (cv bv fv tv ev nv kv : Value) (d : TabD) (w : World) (hs : TabAt lo w cv bv fv tv ev nv kv d) (g1 : d.classes.length = 256) (g2 : btw d.width 1 256 = true) (g3 : allIn 0 (d.width - 1) d.classes = true) (g4 : btw d.base.length 1 4000 = true) (g5 : d.dflt.length = d.base.length) (g6 : d.tag.length = d.base.length) (g7 : d.fin.length = d.base.length) (h : ¬d.next.length = d.chk.length) :
    Calls Try.prog 27 #[.agg #[cv, .int .i64 d.width, bv, fv, tv, ev, nv, kv]] w fun e w' => e = .returned (.bool (tabB d)) ∧ Below w.heap.size w w' := by
  have hb0 : Below w.heap.size w (w.alloc (.cells #[cv, .int .i64 d.width, bv, fv, tv, ev, nv, kv] 48)) := (Below.refl _ _).alloc (Nat.le_refl _) _
  have hs1 := hs.below hb0
  clear hb0
  obtain ⟨⟨a0, p0, rfl, m0, y0⟩, ⟨a1, p1, rfl, m1, y1⟩, ⟨a2, p2, rfl, m2, y2⟩, ⟨a3, p3, rfl, m3, y3⟩, ⟨a4, p4, rfl, m4, y4⟩, ⟨a5, p5, rfl, m5, y5⟩, ⟨a6, p6, rfl, m6, y6⟩⟩ := hs
  clear y0 y1 y2 y3 y4 y5 y6
  have H : Hid (tabB d = false) := by show _ = _; simp [tabB, h]
  have b1 : ((d.classes.length : Int) != 256) = false := by simp [g1]
  have b5 : ((d.dflt.length : Int) != d.base.length) = false := by simp [g5]
  have b6 : ((d.tag.length : Int) != d.base.length) = false := by simp [g6]
  have b7 : ((d.fin.length : Int) != d.base.length) = false := by simp [g7]
  clear g1 g5 g6 g7
  have hw := btw_iff.1 g2
  have ht := btw_iff.1 g4
  go_enter Try.func27, Try.ntmps27
  go_wp2_with (first | (go_at_call 54; refine (between_ok _ _ _ _).mono ?_; rintro e w' ⟨rfl, rfl⟩) | (go_at_call 62; refine (l2All_ok _ _ _ d.classes _ hs1.classes).mono ?_; rintro e w' ⟨rfl, rfl⟩))
  go_ret
  exact ⟨ret_bool H.out.symm, (Below.refl _ _).alloc (Nat.le_refl _) _⟩

set_option maxRecDepth 100000 in
set_option maxHeartbeats 1000000 in
theorem specTableOK_n9 {lo : Nat} (cv bv fv tv ev nv kv : Value) (d : TabD) (w : World) (hs : TabAt lo w cv bv fv tv ev nv kv d) (g1 : d.classes.length = 256) (g2 : btw d.width 1 256 = true) (g3 : allIn 0 (d.width - 1) d.classes = true) (g4 : btw d.base.length 1 4000 = true) (g5 : d.dflt.length = d.base.length) (g6 : d.tag.length = d.base.length) (g7 : d.fin.length = d.base.length) (g8 : d.next.length = d.chk.length) (h : ¬d.next.length ≤ 60000) :
    Calls Try.prog 27 #[.agg #[cv, .int .i64 d.width, bv, fv, tv, ev, nv, kv]] w fun e w' => e = .returned (.bool (tabB d)) ∧ Below w.heap.size w w' := by
  have hb0 : Below w.heap.size w (w.alloc (.cells #[cv, .int .i64 d.width, bv, fv, tv, ev, nv, kv] 48)) := (Below.refl _ _).alloc (Nat.le_refl _) _
  have hs1 := hs.below hb0
  clear hb0
  obtain ⟨⟨a0, p0, rfl, m0, y0⟩, ⟨a1, p1, rfl, m1, y1⟩, ⟨a2, p2, rfl, m2, y2⟩, ⟨a3, p3, rfl, m3, y3⟩, ⟨a4, p4, rfl, m4, y4⟩, ⟨a5, p5, rfl, m5, y5⟩, ⟨a6, p6, rfl, m6, y6⟩⟩ := hs
  clear y0 y1 y2 y3 y4 y5 y6
  have H : Hid (tabB d = false) := by show _ = _; simp [tabB, h]
  have b1 : ((d.classes.length : Int) != 256) = false := by simp [g1]
  have b5 : ((d.dflt.length : Int) != d.base.length) = false := by simp [g5]
  have b6 : ((d.tag.length : Int) != d.base.length) = false := by simp [g6]
  have b7 : ((d.fin.length : Int) != d.base.length) = false := by simp [g7]
  have b8 : ((d.next.length : Int) != d.chk.length) = false := by simp [g8]
  clear g1 g5 g6 g7 g8
  have hw := btw_iff.1 g2
  have ht := btw_iff.1 g4
  go_enter Try.func27, Try.ntmps27
  go_wp2_with (first | (go_at_call 54; refine (between_ok _ _ _ _).mono ?_; rintro e w' ⟨rfl, rfl⟩) | (go_at_call 62; refine (l2All_ok _ _ _ d.classes _ hs1.classes).mono ?_; rintro e w' ⟨rfl, rfl⟩))
  go_ret
  exact ⟨ret_bool H.out.symm, (Below.refl _ _).alloc (Nat.le_refl _) _⟩

set_option maxRecDepth 100000 in
set_option maxHeartbeats 4000000 in
theorem specTableOK_t {lo : Nat} (cv bv fv tv ev nv kv : Value) (d : TabD) (w : World) (hs : TabAt lo w cv bv fv tv ev nv kv d) (g1 : d.classes.length = 256) (g2 : btw d.width 1 256 = true) (g3 : allIn 0 (d.width - 1) d.classes = true) (g4 : btw d.base.length 1 4000 = true) (g5 : d.dflt.length = d.base.length) (g6 : d.tag.length = d.base.length) (g7 : d.fin.length = d.base.length) (g8 : d.next.length = d.chk.length) (g9 : d.next.length ≤ 60000) :
    Calls Try.prog 27 #[.agg #[cv, .int .i64 d.width, bv, fv, tv, ev, nv, kv]] w fun e w' => e = .returned (.bool (tabB d)) ∧ Below w.heap.size w w' := by
  have hb0 : Below w.heap.size w (w.alloc (.cells #[cv, .int .i64 d.width, bv, fv, tv, ev, nv, kv] 48)) := (Below.refl _ _).alloc (Nat.le_refl _) _
  have hs1 := hs.below hb0
  clear hb0
  have H : Hid (tabB d = (freeB d.chk d.next && (allIn 0 59999 d.base && allIn 0 (d.base.length - 1) d.dflt && allIn (-1) 99 d.tag && allIn (-1) 99 d.fin && allIn (-1) (d.base.length - 1) d.chk && allIn 0 (d.base.length - 1) d.next))) := by show _ = _; simp [tabB, g1, g2, g3, g4, g5, g6, g7, g9, ← g8]
  have b1 : ((d.classes.length : Int) != 256) = false := by simp [g1]
  have b5 : ((d.dflt.length : Int) != d.base.length) = false := by simp [g5]
  have b6 : ((d.tag.length : Int) != d.base.length) = false := by simp [g6]
  have b7 : ((d.fin.length : Int) != d.base.length) = false := by simp [g7]
  have b8 : ((d.next.length : Int) != d.chk.length) = false := by simp [g8]
  have hlen : d.chk.length = d.next.length := g8.symm
  have Hlen : Hid (d.chk.length = d.next.length) := hlen
  have hw := btw_iff.1 g2
  have ht := btw_iff.1 g4
  clear g1 g5 g6 g7 g8 hlen
  have hs2 := hs
  obtain ⟨⟨a0, p0, rfl, m0, y0⟩, ⟨a1, p1, rfl, m1, y1⟩, ⟨a2, p2, rfl, m2, y2⟩, ⟨a3, p3, rfl, m3, y3⟩, ⟨a4, p4, rfl, m4, y4⟩, ⟨a5, p5, rfl, m5, y5⟩, ⟨a6, p6, rfl, m6, y6⟩⟩ := hs
  clear y0 y1 y2 y3 y4
  have hbA : Below w.heap.size w (w.alloc (.cells #[.slice a0 d.classes.length p0, .int .i64 d.width, .slice a1 d.base.length p1, .slice a2 d.dflt.length p2, .slice a3 d.tag.length p3, .slice a4 d.fin.length p4, .slice a5 d.next.length p5, .slice a6 d.chk.length p6] 48)) := (Below.refl _ _).alloc (Nat.le_refl _) _
  go_enter Try.func27, Try.ntmps27
  go_wp2_with (first | (go_at_call 54; refine (between_ok _ _ _ _).mono ?_; rintro e w' ⟨rfl, rfl⟩) | (go_at_call 62; refine (l2All_ok _ _ _ d.classes _ hs1.classes).mono ?_; rintro e w' ⟨rfl, rfl⟩))
  go_loop [68] (fun i => ∃ k : Nat, k ≤ d.chk.length ∧ i = .int .i64 k ∧ Hid (tabB d = (freeB (d.chk.drop k) (d.next.drop k) && (allIn 0 59999 d.base && allIn 0 (d.base.length - 1) d.dflt && allIn (-1) 99 d.tag && allIn (-1) 99 d.fin && allIn (-1) (d.base.length - 1) d.chk && allIn 0 (d.base.length - 1) d.next))))
    (fun i => d.chk.length - (intOf i).toNat)
  case atStart => exact ⟨0, Nat.zero_le _, rfl, H.out⟩
  case round =>
    clear H
    obtain ⟨k, hk, rfl, HS⟩ := hrel
    by_cases hlt : k < d.chk.length
    · have hlt2 : k < d.next.length := by have := Hlen.out; omega
      obtain ⟨b, o, x, rfl, Hn, hbl, c0⟩ := y6.elem hbA hlt
      obtain ⟨b2, o2, y, rfl, Hn2, hbl2, d0⟩ := y5.elem hbA hlt2
      have HD : Hid _ := freeB_drop d.chk d.next k hlt hlt2 x y Hn.out Hn2.out
      by_cases hx : x = -1
      · by_cases hy : y = 0
        · go_wp2
          go_round
          case rel => exact ⟨k + 1, by omega, by go_num, by show _ = _; rw [HS.out, HD.out]; simp [hx, hy]⟩
          case measure => simp [intOf]; omega
        · go_wp2
          go_ret
          exact ⟨ret_bool (by rw [HS.out, HD.out]; simp [hx, hy]), hbA⟩
      · have HE : Hid ((!(x == -1 && y != 0)) = true) := by show _ = _; simp [hx]
        go_wp2
        go_round
        case rel => exact ⟨k + 1, by omega, by go_num, by show _ = _; rw [HS.out, HD.out, HE.out, Bool.true_and]⟩
        case measure => simp [intOf]; omega
    · rw [freeB_end _ _ k (by omega), Bool.true_and] at HS
      clear y5 y6 g2 g3 g4 g9 b1 b5 b6 b7 b8
      go_wp2_with fail
      refine (l2All_ok _ _ _ d.base _ hs1.base).mono ?_
      rintro e w' ⟨rfl, rfl⟩
      cases q0 : allIn 0 59999 d.base
      case false =>
        rw [q0] at HS
        go_wp2
        go_ret
        exact ⟨ret_bool (by rw [HS.out]; simp), hbA⟩
      rw [q0] at HS
      go_wp2_with fail
      refine (l2All_ok _ _ _ d.dflt _ hs1.dflt).mono ?_
      rintro e w' ⟨rfl, rfl⟩
      cases q1 : allIn 0 (d.base.length - 1) d.dflt
      case false =>
        rw [q1] at HS
        go_wp2
        go_ret
        exact ⟨ret_bool (by rw [HS.out]; simp), hbA⟩
      rw [q1] at HS
      go_wp2_with fail
      refine (l2All_ok _ _ _ d.tag _ hs1.tag).mono ?_
      rintro e w' ⟨rfl, rfl⟩
      cases q2 : allIn (-1) 99 d.tag
      case false =>
        rw [q2] at HS
        go_wp2
        go_ret
        exact ⟨ret_bool (by rw [HS.out]; simp), hbA⟩
      rw [q2] at HS
      go_wp2_with fail
      refine (l2All_ok _ _ _ d.fin _ hs1.fin).mono ?_
      rintro e w' ⟨rfl, rfl⟩
      cases q3 : allIn (-1) 99 d.fin
      case false =>
        rw [q3] at HS
        go_wp2
        go_ret
        exact ⟨ret_bool (by rw [HS.out]; simp), hbA⟩
      rw [q3] at HS
      go_wp2_with fail
      refine (l2All_ok _ _ _ d.chk _ hs1.chk).mono ?_
      rintro e w' ⟨rfl, rfl⟩
      cases q4 : allIn (-1) (d.base.length - 1) d.chk
      case false =>
        rw [q4] at HS
        go_wp2
        go_ret
        exact ⟨ret_bool (by rw [HS.out]; simp), hbA⟩
      rw [q4] at HS
      go_wp2_with fail
      refine (l2All_ok _ _ _ d.next _ hs1.next).mono ?_
      rintro e w' ⟨rfl, rfl⟩
      go_wp2
      go_ret
      exact ⟨ret_bool (by rw [HS.out]; simp), hbA⟩

theorem specTableOK_ok {lo : Nat} (cv bv fv tv ev nv kv : Value) (d : TabD) (w : World) (hs : TabAt lo w cv bv fv tv ev nv kv d) :
    Calls Try.prog 27 #[.agg #[cv, .int .i64 d.width, bv, fv, tv, ev, nv, kv]] w fun e w' => e = .returned (.bool (tabB d)) ∧ Below w.heap.size w w' := by
  by_cases g1 : d.classes.length = 256
  case neg => exact specTableOK_n1 cv bv fv tv ev nv kv d w hs g1
  cases g2 : btw d.width 1 256
  case false => exact specTableOK_n2 cv bv fv tv ev nv kv d w hs g1 g2
  cases g3 : allIn 0 (d.width - 1) d.classes
  case false => exact specTableOK_n3 cv bv fv tv ev nv kv d w hs g1 g2 g3
  cases g4 : btw d.base.length 1 4000
  case false => exact specTableOK_n4 cv bv fv tv ev nv kv d w hs g1 g2 g3 g4
  by_cases g5 : d.dflt.length = d.base.length
  case neg => exact specTableOK_n5 cv bv fv tv ev nv kv d w hs g1 g2 g3 g4 g5
  by_cases g6 : d.tag.length = d.base.length
  case neg => exact specTableOK_n6 cv bv fv tv ev nv kv d w hs g1 g2 g3 g4 g5 g6
  by_cases g7 : d.fin.length = d.base.length
  case neg => exact specTableOK_n7 cv bv fv tv ev nv kv d w hs g1 g2 g3 g4 g5 g6 g7
  by_cases g8 : d.next.length = d.chk.length
  case neg => exact specTableOK_n8 cv bv fv tv ev nv kv d w hs g1 g2 g3 g4 g5 g6 g7 g8
  by_cases g9 : d.next.length ≤ 60000
  case neg => exact specTableOK_n9 cv bv fv tv ev nv kv d w hs g1 g2 g3 g4 g5 g6 g7 g8 g9
  exact specTableOK_t cv bv fv tv ev nv kv d w hs g1 g2 g3 g4 g5 g6 g7 g8 g9
end Go.Proofs.Ytplhghhfdabccaa
