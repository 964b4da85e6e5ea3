import Derived.Test.YtplhghhfdabccaaTab
namespace Go.Proofs.Ytplhghhfdabccaa
open Go.RowKit

set_option maxRecDepth 100000 in
set_option maxHeartbeats 4000000 in
theorem toTable_ok {lo : Nat} (cv bv fv tv ev nv kv : Value) (d : TabD) (w : World) (hs : TabAt lo w cv bv fv tv ev nv kv d) (hsm : TabSmall d) :
    Calls Try.prog 28 #[.agg #[cv, .int .i64 d.width, bv, fv, tv, ev, nv, kv]] w fun e w' => ∃ cv' bv' fv' tv' ev' nv' kv', e = .returned (.agg #[cv', .int .i64 d.width, bv', fv', tv', ev', nv', kv']) ∧ TabAt w.heap.size w' cv' bv' fv' tv' ev' nv' kv' d ∧ Below w.heap.size w w' := by
  have hm0 : d.classes.length ≤ 1048576 := hsm _ (by simp [TabD.lists])
  have hm1 : d.base.length ≤ 1048576 := hsm _ (by simp [TabD.lists])
  have hm2 : d.dflt.length ≤ 1048576 := hsm _ (by simp [TabD.lists])
  have hm3 : d.tag.length ≤ 1048576 := hsm _ (by simp [TabD.lists])
  have hm4 : d.fin.length ≤ 1048576 := hsm _ (by simp [TabD.lists])
  have hm5 : d.next.length ≤ 1048576 := hsm _ (by simp [TabD.lists])
  have hm6 : d.chk.length ≤ 1048576 := hsm _ (by simp [TabD.lists])
  have T := Tri.new w 45 48 48 #[cv, .int .i64 d.width, bv, fv, tv, ev, nv, kv] #[.slice none 0 0, .int .i64 0, .slice none 0 0, .slice none 0 0, .slice none 0 0, .slice none 0 0, .slice none 0 0, .slice none 0 0] #[.slice none 0 0, .int .i64 0, .slice none 0 0, .slice none 0 0, .slice none 0 0, .slice none 0 0, .slice none 0 0, .slice none 0 0]
  go_enter Try.func28, Try.ntmps28
  go_wp2_with fail
  refine (toIntS_ok _ d.classes _ (hs.below T.below).classes hm0).mono ?_
  rintro e w1 ⟨v0, rfl, hr0, hb⟩
  replace hr0 := IntsAt.mono hr0 T.size
  replace T := T.call hb
  clear hb
  obtain ⟨ao0, cap0, rfl, hn0, hc⟩ := hr0
  replace hr0 : IntsAt (w.heap.size + 1 + 1 + 1) w1 (.slice ao0 d.classes.length cap0) d.classes := ⟨_, _, rfl, hn0, hc⟩
  clear hc
  obtain ⟨c0, c1, c2, f1, f2⟩ := T.cells
  go_wp2_with fail
  clear c0 c1 c2 f1 f2
  replace T := T.set 0 (.slice ao0 d.classes.length cap0)
  replace hr0 := hr0.setCell (a := ⟨w.heap.size + 1 + 1, 0, none⟩) (by simp) (.slice ao0 d.classes.length cap0)
  replace T := T.set 1 (.int .i64 d.width)
  replace hr0 := hr0.setCell (a := ⟨w.heap.size + 1 + 1, 1, none⟩) (by simp) (.int .i64 d.width)
  refine (toIntS_ok _ d.base _ (hs.below T.below).base hm1).mono ?_
  rintro e w2 ⟨v1, rfl, hr1, hb⟩
  replace hr1 := IntsAt.mono hr1 T.size
  replace hr0 := hr0.below hb
  replace T := T.call hb
  clear hb
  obtain ⟨ao1, cap1, rfl, hn1, hc⟩ := hr1
  replace hr1 : IntsAt (w.heap.size + 1 + 1 + 1) w2 (.slice ao1 d.base.length cap1) d.base := ⟨_, _, rfl, hn1, hc⟩
  clear hc
  obtain ⟨c0, c1, c2, f1, f2⟩ := T.cells
  go_wp2_with fail
  clear c0 c1 c2 f1 f2
  replace T := T.set 2 (.slice ao1 d.base.length cap1)
  replace hr0 := hr0.setCell (a := ⟨w.heap.size + 1 + 1, 2, none⟩) (by simp) (.slice ao1 d.base.length cap1)
  replace hr1 := hr1.setCell (a := ⟨w.heap.size + 1 + 1, 2, none⟩) (by simp) (.slice ao1 d.base.length cap1)
  refine (toIntS_ok _ d.dflt _ (hs.below T.below).dflt hm2).mono ?_
  rintro e w3 ⟨v2, rfl, hr2, hb⟩
  replace hr2 := IntsAt.mono hr2 T.size
  replace hr0 := hr0.below hb
  replace hr1 := hr1.below hb
  replace T := T.call hb
  clear hb
  obtain ⟨ao2, cap2, rfl, hn2, hc⟩ := hr2
  replace hr2 : IntsAt (w.heap.size + 1 + 1 + 1) w3 (.slice ao2 d.dflt.length cap2) d.dflt := ⟨_, _, rfl, hn2, hc⟩
  clear hc
  obtain ⟨c0, c1, c2, f1, f2⟩ := T.cells
  go_wp2_with fail
  clear c0 c1 c2 f1 f2
  replace T := T.set 3 (.slice ao2 d.dflt.length cap2)
  replace hr0 := hr0.setCell (a := ⟨w.heap.size + 1 + 1, 3, none⟩) (by simp) (.slice ao2 d.dflt.length cap2)
  replace hr1 := hr1.setCell (a := ⟨w.heap.size + 1 + 1, 3, none⟩) (by simp) (.slice ao2 d.dflt.length cap2)
  replace hr2 := hr2.setCell (a := ⟨w.heap.size + 1 + 1, 3, none⟩) (by simp) (.slice ao2 d.dflt.length cap2)
  refine (toIntS_ok _ d.tag _ (hs.below T.below).tag hm3).mono ?_
  rintro e w4 ⟨v3, rfl, hr3, hb⟩
  replace hr3 := IntsAt.mono hr3 T.size
  replace hr0 := hr0.below hb
  replace hr1 := hr1.below hb
  replace hr2 := hr2.below hb
  replace T := T.call hb
  clear hb
  obtain ⟨ao3, cap3, rfl, hn3, hc⟩ := hr3
  replace hr3 : IntsAt (w.heap.size + 1 + 1 + 1) w4 (.slice ao3 d.tag.length cap3) d.tag := ⟨_, _, rfl, hn3, hc⟩
  clear hc
  obtain ⟨c0, c1, c2, f1, f2⟩ := T.cells
  go_wp2_with fail
  clear c0 c1 c2 f1 f2
  replace T := T.set 4 (.slice ao3 d.tag.length cap3)
  replace hr0 := hr0.setCell (a := ⟨w.heap.size + 1 + 1, 4, none⟩) (by simp) (.slice ao3 d.tag.length cap3)
  replace hr1 := hr1.setCell (a := ⟨w.heap.size + 1 + 1, 4, none⟩) (by simp) (.slice ao3 d.tag.length cap3)
  replace hr2 := hr2.setCell (a := ⟨w.heap.size + 1 + 1, 4, none⟩) (by simp) (.slice ao3 d.tag.length cap3)
  replace hr3 := hr3.setCell (a := ⟨w.heap.size + 1 + 1, 4, none⟩) (by simp) (.slice ao3 d.tag.length cap3)
  refine (toIntS_ok _ d.fin _ (hs.below T.below).fin hm4).mono ?_
  rintro e w5 ⟨v4, rfl, hr4, hb⟩
  replace hr4 := IntsAt.mono hr4 T.size
  replace hr0 := hr0.below hb
  replace hr1 := hr1.below hb
  replace hr2 := hr2.below hb
  replace hr3 := hr3.below hb
  replace T := T.call hb
  clear hb
  obtain ⟨ao4, cap4, rfl, hn4, hc⟩ := hr4
  replace hr4 : IntsAt (w.heap.size + 1 + 1 + 1) w5 (.slice ao4 d.fin.length cap4) d.fin := ⟨_, _, rfl, hn4, hc⟩
  clear hc
  obtain ⟨c0, c1, c2, f1, f2⟩ := T.cells
  go_wp2_with fail
  clear c0 c1 c2 f1 f2
  replace T := T.set 5 (.slice ao4 d.fin.length cap4)
  replace hr0 := hr0.setCell (a := ⟨w.heap.size + 1 + 1, 5, none⟩) (by simp) (.slice ao4 d.fin.length cap4)
  replace hr1 := hr1.setCell (a := ⟨w.heap.size + 1 + 1, 5, none⟩) (by simp) (.slice ao4 d.fin.length cap4)
  replace hr2 := hr2.setCell (a := ⟨w.heap.size + 1 + 1, 5, none⟩) (by simp) (.slice ao4 d.fin.length cap4)
  replace hr3 := hr3.setCell (a := ⟨w.heap.size + 1 + 1, 5, none⟩) (by simp) (.slice ao4 d.fin.length cap4)
  replace hr4 := hr4.setCell (a := ⟨w.heap.size + 1 + 1, 5, none⟩) (by simp) (.slice ao4 d.fin.length cap4)
  refine (toIntS_ok _ d.next _ (hs.below T.below).next hm5).mono ?_
  rintro e w6 ⟨v5, rfl, hr5, hb⟩
  replace hr5 := IntsAt.mono hr5 T.size
  replace hr0 := hr0.below hb
  replace hr1 := hr1.below hb
  replace hr2 := hr2.below hb
  replace hr3 := hr3.below hb
  replace hr4 := hr4.below hb
  replace T := T.call hb
  clear hb
  obtain ⟨ao5, cap5, rfl, hn5, hc⟩ := hr5
  replace hr5 : IntsAt (w.heap.size + 1 + 1 + 1) w6 (.slice ao5 d.next.length cap5) d.next := ⟨_, _, rfl, hn5, hc⟩
  clear hc
  obtain ⟨c0, c1, c2, f1, f2⟩ := T.cells
  go_wp2_with fail
  clear c0 c1 c2 f1 f2
  replace T := T.set 6 (.slice ao5 d.next.length cap5)
  replace hr0 := hr0.setCell (a := ⟨w.heap.size + 1 + 1, 6, none⟩) (by simp) (.slice ao5 d.next.length cap5)
  replace hr1 := hr1.setCell (a := ⟨w.heap.size + 1 + 1, 6, none⟩) (by simp) (.slice ao5 d.next.length cap5)
  replace hr2 := hr2.setCell (a := ⟨w.heap.size + 1 + 1, 6, none⟩) (by simp) (.slice ao5 d.next.length cap5)
  replace hr3 := hr3.setCell (a := ⟨w.heap.size + 1 + 1, 6, none⟩) (by simp) (.slice ao5 d.next.length cap5)
  replace hr4 := hr4.setCell (a := ⟨w.heap.size + 1 + 1, 6, none⟩) (by simp) (.slice ao5 d.next.length cap5)
  replace hr5 := hr5.setCell (a := ⟨w.heap.size + 1 + 1, 6, none⟩) (by simp) (.slice ao5 d.next.length cap5)
  refine (toIntS_ok _ d.chk _ (hs.below T.below).chk hm6).mono ?_
  rintro e w7 ⟨v6, rfl, hr6, hb⟩
  replace hr6 := IntsAt.mono hr6 T.size
  replace hr0 := hr0.below hb
  replace hr1 := hr1.below hb
  replace hr2 := hr2.below hb
  replace hr3 := hr3.below hb
  replace hr4 := hr4.below hb
  replace hr5 := hr5.below hb
  replace T := T.call hb
  clear hb
  obtain ⟨ao6, cap6, rfl, hn6, hc⟩ := hr6
  replace hr6 : IntsAt (w.heap.size + 1 + 1 + 1) w7 (.slice ao6 d.chk.length cap6) d.chk := ⟨_, _, rfl, hn6, hc⟩
  clear hc
  obtain ⟨c0, c1, c2, f1, f2⟩ := T.cells
  go_wp2
  refine bodyPost_ret (v := .agg #[.slice ao0 d.classes.length cap0, .int .i64 d.width, .slice ao1 d.base.length cap1, .slice ao2 d.dflt.length cap2, .slice ao3 d.tag.length cap3, .slice ao4 d.fin.length cap4, .slice ao5 d.next.length cap5, .slice ao6 d.chk.length cap6]) (by simp [results, Try.results28, go_sem, c1]) rfl ⟨_, _, _, _, _, _, _, rfl, ?_, ?_⟩
  · constructor
    all_goals
      refine IntsAt.mono (lo := w.heap.size + 1 + 1 + 1) ?_ (by omega)
      iterate 9 refine IntsAt.setCell ?_ (by simp) _
    · exact hr0
    · exact hr1
    · exact hr2
    · exact hr3
    · exact hr4
    · exact hr5
    · exact hr6
  · iterate 9 refine Below.setCell ?_ (by simp <;> omega) _
    exact T.below
end Go.Proofs.Ytplhghhfdabccaa
