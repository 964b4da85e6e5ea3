import Derived.Test.YtplhghhfdabccaaEncR
import Derived.Deep.RegionHeld3
import Derived.Deep.DrawnRows
namespace Go.Proofs.Ytplhghhfdabccaa
open Go.RowKit
attribute [local go_sem ↓] Go.wp_at_zero Go.wp_at_succ

set_option maxRecDepth 100000 in
set_option maxHeartbeats 1000000 in
theorem specEncode_ok {lo : Nat} (cv bv fv tv ev nv kv : Value) (d : TabD) (w : World) (hs : TabAt lo w cv bv fv tv ev nv kv d) :
    Calls Try.prog 33 #[.agg #[cv, .int .i64 d.width, bv, fv, tv, ev, nv, kv]] w fun e w' => e = .returned (.string (encF d)) ∧ Below w.heap.size w w' := by
  have hb0 : Below w.heap.size w (w.alloc (.cells #[cv, .int .i64 d.width, bv, fv, tv, ev, nv, kv] 48)) := (Below.refl _ _).alloc (Nat.le_refl _) _
  have r0 : (w.alloc (.cells #[cv, .int .i64 d.width, bv, fv, tv, ev, nv, kv] 48)).heap[w.heap.size]? = some (.cells #[cv, .int .i64 d.width, bv, fv, tv, ev, nv, kv] 48 (0, 0)) := heap_alloc_new _ _
  go_enter Try.func33, Try.ntmps33
  go_wp2_with fail
  refine (specTableOK_ok _ _ _ _ _ _ _ d _ (hs.below hb0)).mono ?_
  rintro e w1 ⟨rfl, hb1⟩
  have hbb1 := below_step hb0 hb0.size hb1
  have r1 := row_below r0 hb1
  obtain ⟨x0, x1, x2, x3, x4, x5, x6, x7⟩ := row_eight r1
  clear hb1
  cases hB : tabB d
  case false =>
    have H : Hid (encF d = ⟨#[]⟩) := by show _ = _; simp [encF, hB]
    go_wp2
    go_ret
    exact ⟨ret_str H.out.symm, hbb1⟩
  have H : Hid (encF d = ⟨(imageL d).toArray⟩) := by show _ = _; simp [encF, hB]
  go_wp2_with fail
  refine (l3Raw_ok _ _ _ _ _ _ _ d _ (hs.below hbb1) (tabB_fine hB)).mono ?_
  rintro e w2 ⟨rfl, hb2⟩
  go_wp2
  go_ret
  exact ⟨ret_str H.out.symm, below_step hbb1 hbb1.size hb2⟩

set_option maxRecDepth 100000 in
set_option maxHeartbeats 4000000 in
theorem lawEncode_ok {lo : Nat} (cv bv fv tv ev nv kv : Value) (d : TabD) (w : World) (hs : TabAt lo w cv bv fv tv ev nv kv d)
    (himpl : ∀ (l : Nat) (cv bv fv tv ev nv kv : Value) (w : World), TabAt l w cv bv fv tv ev nv kv d → TabSmall d → Calls Try.prog 34 #[.agg #[cv, .int .i64 d.width, bv, fv, tv, ev, nv, kv]] w fun e w' => e = .returned (.string (encF d)) ∧ Below w.heap.size w w') :
    Calls Try.prog 8 #[.agg #[cv, .int .i64 d.width, bv, fv, tv, ev, nv, kv]] w fun e w' => e = .returned (.bool true) ∧ Below w.heap.size w w' := by
  have hb0 : Below w.heap.size w (w.alloc (.cells #[cv, .int .i64 d.width, bv, fv, tv, ev, nv, kv] 45)) := (Below.refl _ _).alloc (Nat.le_refl _) _
  have r0 : (w.alloc (.cells #[cv, .int .i64 d.width, bv, fv, tv, ev, nv, kv] 45)).heap[w.heap.size]? = some (.cells #[cv, .int .i64 d.width, bv, fv, tv, ev, nv, kv] 45 (0, 0)) := heap_alloc_new _ _
  have hsz := szAll_le d.lists 1048576 (by omega)
  go_enter Try.func8, Try.ntmps8
  go_wp2_with fail
  refine (szTable_ok _ _ _ _ _ _ _ d 1048576 _ (hs.below hb0) (by omega) (by omega)).mono ?_
  rintro e w1 ⟨rfl, hb1⟩
  have hbb1 := below_step hb0 hb0.size hb1
  have r1 := row_below r0 hb1
  obtain ⟨x0, x1, x2, x3, x4, x5, x6, x7⟩ := row_eight r1
  clear hb1
  by_cases hneg : szAll d.lists 1048576 < 0
  · go_wp2
    go_ret
    exact ⟨rfl, hbb1⟩
  have hsm : TabSmall d := szAll_small d.lists 1048576 (by omega) (by omega) (by omega)
  go_wp2_with fail
  refine (toTable_ok _ _ _ _ _ _ _ d _ (hs.below hbb1) hsm).mono ?_
  rintro e w2 ⟨cv2, bv2, fv2, tv2, ev2, nv2, kv2, rfl, hx2, hb2⟩
  have hbb2 := below_step hbb1 hbb1.size hb2
  have r2 := row_below r1 hb2
  clear x0 x1 x2 x3 x4 x5 x6 x7 hb2
  obtain ⟨x0, x1, x2, x3, x4, x5, x6, x7⟩ := row_eight r2
  go_wp2_with fail
  refine (specEncode_ok _ _ _ _ _ _ _ d _ hx2).mono ?_
  rintro e w3 ⟨rfl, hb3⟩
  have hbb3 := below_step hbb2 hbb2.size hb3
  have r3 := row_below r2 hb3
  clear x0 x1 x2 x3 x4 x5 x6 x7 hb3
  obtain ⟨x0, x1, x2, x3, x4, x5, x6, x7⟩ := row_eight r3
  go_wp2_with fail
  refine (toTable_ok _ _ _ _ _ _ _ d _ (hs.below hbb3) hsm).mono ?_
  rintro e w4 ⟨cv4, bv4, fv4, tv4, ev4, nv4, kv4, rfl, hx4, hb4⟩
  have hbb4 := below_step hbb3 hbb3.size hb4
  have r4 := row_below r3 hb4
  clear x0 x1 x2 x3 x4 x5 x6 x7 hb4
  obtain ⟨⟨a0, p0, rfl, m0, y0⟩, ⟨a1, p1, rfl, m1, y1⟩, ⟨a2, p2, rfl, m2, y2⟩, ⟨a3, p3, rfl, m3, y3⟩, ⟨a4, p4, rfl, m4, y4⟩, ⟨a5, p5, rfl, m5, y5⟩, ⟨a6, p6, rfl, m6, y6⟩⟩ := hx4
  have hx4 : TabAt w3.heap.size w4 (.slice a0 d.classes.length p0) (.slice a1 d.base.length p1) (.slice a2 d.dflt.length p2) (.slice a3 d.tag.length p3) (.slice a4 d.fin.length p4) (.slice a5 d.next.length p5) (.slice a6 d.chk.length p6) d := ⟨⟨_, _, rfl, m0, y0⟩, ⟨_, _, rfl, m1, y1⟩, ⟨_, _, rfl, m2, y2⟩, ⟨_, _, rfl, m3, y3⟩, ⟨_, _, rfl, m4, y4⟩, ⟨_, _, rfl, m5, y5⟩, ⟨_, _, rfl, m6, y6⟩⟩
  clear y0 y1 y2 y3 y4 y5 y6
  obtain ⟨x0, x1, x2, x3, x4, x5, x6, x7⟩ := row_eight r4
  have hb4a : Below w4.heap.size w4 (w4.alloc (.cells #[.slice a0 d.classes.length p0, .int .i64 d.width, .slice a1 d.base.length p1, .slice a2 d.dflt.length p2, .slice a3 d.tag.length p3, .slice a4 d.fin.length p4, .slice a5 d.next.length p5, .slice a6 d.chk.length p6] 48)) := (Below.refl _ _).alloc (Nat.le_refl _) _
  have q4 : (w4.alloc (.cells #[.slice a0 d.classes.length p0, .int .i64 d.width, .slice a1 d.base.length p1, .slice a2 d.dflt.length p2, .slice a3 d.tag.length p3, .slice a4 d.fin.length p4, .slice a5 d.next.length p5, .slice a6 d.chk.length p6] 48)).heap[w4.heap.size]? = some (.cells #[.slice a0 d.classes.length p0, .int .i64 d.width, .slice a1 d.base.length p1, .slice a2 d.dflt.length p2, .slice a3 d.tag.length p3, .slice a4 d.fin.length p4, .slice a5 d.next.length p5, .slice a6 d.chk.length p6] 48 (0, 0)) := heap_alloc_new _ _
  go_wp2_with fail
  refine (himpl _ _ _ _ _ _ _ _ _ (hx4.below hb4a) hsm).mono ?_
  rintro e w5 ⟨rfl, hb5⟩
  have hbb4a := below_step hbb4 hbb4.size hb4a
  have hbb5 := below_step hbb4a hbb4a.size hb5
  have r5 := row_below (row_below r4 hb4a) hb5
  have q5 := row_below q4 hb5
  have hx5 := (hx4.below hb4a).below hb5
  clear x0 x1 x2 x3 x4 x5 x6 x7 hb5 hb4a
  obtain ⟨x0, x1, x2, x3, x4, x5, x6, x7⟩ := row_eight r5
  obtain ⟨z0, z1, z2, z3, z4, z5, z6, z7⟩ := row_eight q5
  generalize encF d = sb at *
  go_wp2
  go_region_held3 (fun w' => w'.cell? ⟨w.heap.size, 0, none⟩ = some (cv) ∧ w'.cell? ⟨w.heap.size, 1, none⟩ = some (.int .i64 d.width) ∧ w'.cell? ⟨w.heap.size, 2, none⟩ = some (bv) ∧ w'.cell? ⟨w.heap.size, 3, none⟩ = some (fv) ∧ w'.cell? ⟨w.heap.size, 4, none⟩ = some (tv) ∧ w'.cell? ⟨w.heap.size, 5, none⟩ = some (ev) ∧ w'.cell? ⟨w.heap.size, 6, none⟩ = some (nv) ∧ w'.cell? ⟨w.heap.size, 7, none⟩ = some (kv) ∧ w'.cell? ⟨w4.heap.size, 0, none⟩ = some (.slice a0 d.classes.length p0) ∧ w'.cell? ⟨w4.heap.size, 1, none⟩ = some (.int .i64 d.width) ∧ w'.cell? ⟨w4.heap.size, 2, none⟩ = some (.slice a1 d.base.length p1) ∧ w'.cell? ⟨w4.heap.size, 3, none⟩ = some (.slice a2 d.dflt.length p2) ∧ w'.cell? ⟨w4.heap.size, 4, none⟩ = some (.slice a3 d.tag.length p3) ∧ w'.cell? ⟨w4.heap.size, 5, none⟩ = some (.slice a4 d.fin.length p4) ∧ w'.cell? ⟨w4.heap.size, 6, none⟩ = some (.slice a5 d.next.length p5) ∧ w'.cell? ⟨w4.heap.size, 7, none⟩ = some (.slice a6 d.chk.length p6)) ((first | exact rows_sixteen (row_drew r5) (row_drew q5) | exact rows_sixteen r5 q5 | exact rows_sixteen (row_below (row_drew r5) hb6) (row_below (row_drew q5) hb6) | exact rows_sixteen (row_below (row_below (row_drew r5) hb6) hb7) (row_below (row_below (row_drew q5) hb6) hb7))) ((first | (go_at_call 28; refine (toTable_ok _ _ _ _ _ _ _ d _ (hs.below hbb5.drew) hsm).mono ?_; rintro e w6 ⟨cv6, bv6, fv6, tv6, ev6, nv6, kv6, rfl, hx6, hb6⟩) | (go_at_call 30; refine (eqTable_ok _ _ _ _ _ _ _ _ _ _ _ _ _ _ d _ ((hx5.below (Below.refl _ _).drew).below hb6) hx6).mono ?_; rintro e w7 ⟨rfl, hb7⟩)))
  go_wp2
  go_ret
  exact ⟨rfl, below_step (below_step hbb5.drew hbb5.size hb6) (Nat.le_trans hbb5.size hb6.size) hb7⟩
end Go.Proofs.Ytplhghhfdabccaa
