import Derived.Test.YtgbdlgogccgciaaDfa
namespace Go.Proofs.Ytgbdlgogccgciaa
open Go.RowKit

/-- Three blocks of a call's own, behind the blocks of its world. -/
structure Tri (w : World) (t0 t1 t2 : TypeId) (C0 C1 C2 : Array Value) (W : World) : Prop where
  below : Below w.heap.size w W
  size : w.heap.size + 1 + 1 + 1 ≤ W.heap.size
  r0 : W.heap[w.heap.size]? = some (.cells C0 t0 (0, 0))
  r1 : W.heap[w.heap.size + 1]? = some (.cells C1 t1 (0, 0))
  r2 : W.heap[w.heap.size + 1 + 1]? = some (.cells C2 t2 (0, 0))
theorem Tri.new (w : World) (t0 t1 t2 : TypeId) (C0 C1 C2 : Array Value) : Tri w t0 t1 t2 C0 C1 C2 (((w.alloc (.cells C0 t0)).alloc (.cells C1 t1)).alloc (.cells C2 t2)) :=
  ⟨(((Below.refl _ _).alloc (Nat.le_refl _) _).alloc (by simp) _).alloc (by simp; omega) _, by simp,
    by rw [Below.heap_alloc _ _ _ (by simp; omega), heap_alloc2_old], by rw [Below.heap_alloc _ _ _ (by simp), heap_alloc2_new],
    by have := heap_alloc_new ((w.alloc (.cells C0 t0)).alloc (.cells C1 t1)) (.cells C2 t2); simpa using this⟩
theorem Tri.call {w W W' : World} {t0 t1 t2 : TypeId} {C0 C1 C2 : Array Value} (h : Tri w t0 t1 t2 C0 C1 C2 W) (hb : Below W.heap.size W W') : Tri w t0 t1 t2 C0 C1 C2 W' := by
  have hz := h.size
  exact ⟨below_step h.below h.below.size hb, Nat.le_trans hz hb.size, (hb.block _ (by omega)).trans h.r0, (hb.block _ (by omega)).trans h.r1, (hb.block _ (by omega)).trans h.r2⟩
theorem Tri.set {w W : World} {t0 t1 t2 : TypeId} {C0 C1 C2 : Array Value} (h : Tri w t0 t1 t2 C0 C1 C2 W) (o : Nat) (v : Value) : Tri w t0 t1 t2 C0 C1 (C2.setIfInBounds o v) (W.setCell ⟨w.heap.size + 1 + 1, o, none⟩ v) :=
  ⟨h.below.setCell (by simp; omega) _, by simpa [World.setCell] using h.size, (heap_setCell_other _ _ _ _ (by simp; omega)).trans h.r0, (heap_setCell_other _ _ _ _ (by simp)).trans h.r1, heap_setCell_same _ _ _ _ _ _ h.r2⟩
theorem Tri.cells {w W : World} {t0 t1 t2 : TypeId} {C0 C1 C2 : Array Value} (h : Tri w t0 t1 t2 C0 C1 C2 W) : (∀ o, W.cell? ⟨w.heap.size, o, none⟩ = C0[o]?) ∧ (∀ o, W.cell? ⟨w.heap.size + 1, o, none⟩ = C1[o]?) ∧ (∀ o, W.cell? ⟨w.heap.size + 1 + 1, o, none⟩ = C2[o]?) ∧
    (∀ o, W.frozen? ⟨w.heap.size + 1, o, none⟩ = false) ∧ (∀ o, W.frozen? ⟨w.heap.size + 1 + 1, o, none⟩ = false) :=
  ⟨fun _ => cell_of_row _ _ _ _ _ _ h.r0, fun _ => cell_of_row _ _ _ _ _ _ h.r1, fun _ => cell_of_row _ _ _ _ _ _ h.r2, fun _ => frozen_of_row _ _ _ _ _ h.r1, fun _ => frozen_of_row _ _ _ _ _ h.r2⟩

set_option maxRecDepth 100000 in
set_option maxHeartbeats 2000000 in
theorem toDfa_ok {lo : Nat} (cv nv tv ev : Value) (d : DfaD) (w : World) (hs : DfaAt lo w cv nv tv ev d) (hsm : DfaSmall d) :
    Calls Try.prog 6 #[.agg #[cv, .int .i64 d.width, nv, tv, ev]] w fun e w' => ∃ cv' nv' tv' ev', e = .returned (.agg #[cv', .int .i64 d.width, nv', tv', ev']) ∧ DfaAt w.heap.size w' cv' nv' tv' ev' d ∧ Below w.heap.size w w' := by
  obtain ⟨hm1, hm2, hm3, hm4⟩ := hsm
  have T := Tri.new w 24 26 26 #[cv, .int .i64 d.width, nv, tv, ev] #[.slice none 0 0, .int .i64 0, .slice none 0 0, .slice none 0 0, .slice none 0 0] #[.slice none 0 0, .int .i64 0, .slice none 0 0, .slice none 0 0, .slice none 0 0]
  go_enter Try.func6, Try.ntmps6
  go_wp2_with fail
  refine (toIntS_ok _ d.classes _ (hs.below T.below).classes hm1).mono ?_
  rintro e w1 ⟨cv', rfl, hr1, hb1⟩
  replace hr1 := IntsAt.mono hr1 (by simp : w.heap.size + 1 + 1 + 1 ≤ _)
  replace T := T.call hb1
  clear hb1
  obtain ⟨ao1, cap1, rfl, hn1, hc1⟩ := hr1
  replace hr1 : IntsAt (w.heap.size + 1 + 1 + 1) w1 (.slice ao1 d.classes.length cap1) d.classes := ⟨_, _, rfl, hn1, hc1⟩
  clear hc1
  obtain ⟨c0, c1, c2, f1, f2⟩ := T.cells
  go_wp2_with fail
  clear c0 c1 c2 f1 f2
  replace T := (T.set 0 (.slice ao1 d.classes.length cap1)).set 1 (.int .i64 d.width)
  replace hr1 := (hr1.setCell (a := ⟨w.heap.size + 1 + 1, 0, none⟩) (by simp) (.slice ao1 d.classes.length cap1)).setCell (a := ⟨w.heap.size + 1 + 1, 1, none⟩) (by simp) (.int .i64 d.width)
  refine (toIntS_ok _ d.next _ (hs.below T.below).next hm2).mono ?_
  rintro e w2 ⟨nv', rfl, hr2, hb2⟩
  replace hr2 := IntsAt.mono hr2 T.size
  replace hr1 := hr1.below hb2
  replace T := T.call hb2
  clear hb2
  obtain ⟨ao2, cap2, rfl, hn2, hc2⟩ := hr2
  replace hr2 : IntsAt (w.heap.size + 1 + 1 + 1) w2 (.slice ao2 d.next.length cap2) d.next := ⟨_, _, rfl, hn2, hc2⟩
  clear hc2
  obtain ⟨c0, c1, c2, f1, f2⟩ := T.cells
  go_wp2_with fail
  clear c0 c1 c2 f1 f2
  replace T := T.set 2 (.slice ao2 d.next.length cap2)
  replace hr1 := hr1.setCell (a := ⟨w.heap.size + 1 + 1, 2, none⟩) (by simp) (.slice ao2 d.next.length cap2)
  replace hr2 := hr2.setCell (a := ⟨w.heap.size + 1 + 1, 2, none⟩) (by simp) (.slice ao2 d.next.length cap2)
  refine (toIntS_ok _ d.tag _ (hs.below T.below).tag hm3).mono ?_
  rintro e w3 ⟨tv', rfl, hr3, hb3⟩
  replace hr3 := IntsAt.mono hr3 T.size
  replace hr1 := hr1.below hb3
  replace hr2 := hr2.below hb3
  replace T := T.call hb3
  clear hb3
  obtain ⟨ao3, cap3, rfl, hn3, hc3⟩ := hr3
  replace hr3 : IntsAt (w.heap.size + 1 + 1 + 1) w3 (.slice ao3 d.tag.length cap3) d.tag := ⟨_, _, rfl, hn3, hc3⟩
  clear hc3
  obtain ⟨c0, c1, c2, f1, f2⟩ := T.cells
  go_wp2_with fail
  clear c0 c1 c2 f1 f2
  replace T := T.set 3 (.slice ao3 d.tag.length cap3)
  replace hr1 := hr1.setCell (a := ⟨w.heap.size + 1 + 1, 3, none⟩) (by simp) (.slice ao3 d.tag.length cap3)
  replace hr2 := hr2.setCell (a := ⟨w.heap.size + 1 + 1, 3, none⟩) (by simp) (.slice ao3 d.tag.length cap3)
  replace hr3 := hr3.setCell (a := ⟨w.heap.size + 1 + 1, 3, none⟩) (by simp) (.slice ao3 d.tag.length cap3)
  refine (toIntS_ok _ d.fin _ (hs.below T.below).fin hm4).mono ?_
  rintro e w4 ⟨ev', rfl, hr4, hb4⟩
  replace hr4 := IntsAt.mono hr4 T.size
  replace hr1 := hr1.below hb4
  replace hr2 := hr2.below hb4
  replace hr3 := hr3.below hb4
  replace T := T.call hb4
  clear hb4
  obtain ⟨ao4, cap4, rfl, hn4, hc4⟩ := hr4
  replace hr4 : IntsAt (w.heap.size + 1 + 1 + 1) w4 (.slice ao4 d.fin.length cap4) d.fin := ⟨_, _, rfl, hn4, hc4⟩
  clear hc4
  obtain ⟨c0, c1, c2, f1, f2⟩ := T.cells
  go_wp2
  refine bodyPost_ret (v := .agg #[.slice ao1 d.classes.length cap1, .int .i64 d.width, .slice ao2 d.next.length cap2, .slice ao3 d.tag.length cap3, .slice ao4 d.fin.length cap4]) (by simp [results, Try.results6, go_sem, c1]) rfl ⟨_, _, _, _, rfl, ?_, ?_⟩
  · constructor
    all_goals
      refine IntsAt.mono (lo := w.heap.size + 1 + 1 + 1) ?_ (by omega)
      iterate 6 refine IntsAt.setCell ?_ (by simp) _
    · exact hr1
    · exact hr2
    · exact hr3
    · exact hr4
  · iterate 6 refine Below.setCell ?_ (by simp <;> omega) _
    exact T.below
end Go.Proofs.Ytgbdlgogccgciaa
