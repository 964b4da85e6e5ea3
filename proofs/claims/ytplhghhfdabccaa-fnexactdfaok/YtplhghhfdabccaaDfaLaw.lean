import Derived.Test.YtplhghhfdabccaaDfaS
import Derived.Test.YtplhghhfdabccaaRow
import Derived.Deep.RegionHeld3
import Derived.Deep.DrawnRows
namespace Go.Proofs.Ytplhghhfdabccaa
open Go.RowKit

attribute [local go_sem ↓] Go.wp_at_zero Go.wp_at_succ

set_option maxRecDepth 100000 in
set_option maxHeartbeats 4000000 in
theorem lawDfaOK_ok {lo : Nat} (cv nv tv ev : Value) (d : DfaD) (w : World) (hs : DfaAt lo w cv nv tv ev d)
    (himpl : ∀ (l : Nat) (cv nv tv ev : Value) (w : World), DfaAt l w cv nv tv ev d → DfaSmall d → Calls Try.prog 22 #[.agg #[cv, .int .i64 d.width, nv, tv, ev]] w fun e w' => e = .returned (.bool (dfaB d)) ∧ Below w.heap.size w w') :
    Calls Try.prog 4 #[.agg #[cv, .int .i64 d.width, nv, tv, ev]] w fun e w' => e = .returned (.bool true) ∧ Below w.heap.size w w' := by
  have hb0 : Below w.heap.size w (w.alloc (.cells #[cv, .int .i64 d.width, nv, tv, ev] 35)) := (Below.refl _ _).alloc (Nat.le_refl _) _
  have r0 : (w.alloc (.cells #[cv, .int .i64 d.width, nv, tv, ev] 35)).heap[w.heap.size]? = some (.cells #[cv, .int .i64 d.width, nv, tv, ev] 35 (0, 0)) := heap_alloc_new _ _
  have hsz := dfaSz_bd d 1048576 (by omega)
  go_enter Try.func4, Try.ntmps4
  go_wp2_with fail
  refine (szDfa_ok _ _ _ _ d 1048576 _ (hs.below hb0) (by omega) (by omega)).mono ?_
  rintro e w1 ⟨rfl, hb1⟩
  have hbb1 := below_step hb0 hb0.size hb1
  have r1 := row_below r0 hb1
  obtain ⟨a0, a1, a2, a3, a4⟩ := row_five r1
  clear hb1
  by_cases hneg : dfaSz d 1048576 < 0
  · go_wp2
    go_ret
    exact ⟨rfl, hbb1⟩
  have hsm : DfaSmall d := dfaSz_small (by omega)
  go_wp2_with fail
  refine (toDfa_ok _ _ _ _ d _ (hs.below hbb1) hsm).mono ?_
  rintro e w2 ⟨cv2, nv2, tv2, ev2, rfl, hx2, hb2⟩
  have hbb2 := below_step hbb1 hbb1.size hb2
  have r2 := row_below r1 hb2
  clear a0 a1 a2 a3 a4 hb2
  obtain ⟨a0, a1, a2, a3, a4⟩ := row_five r2
  go_wp2_with fail
  refine (specDfaOK_ok _ _ _ _ d _ hx2).mono ?_
  rintro e w3 ⟨rfl, hb3⟩
  have hbb3 := below_step hbb2 hbb2.size hb3
  have r3 := row_below r2 hb3
  clear a0 a1 a2 a3 a4 hb3
  obtain ⟨a0, a1, a2, a3, a4⟩ := row_five r3
  go_wp2_with fail
  refine (toDfa_ok _ _ _ _ d _ (hs.below hbb3) hsm).mono ?_
  rintro e w4 ⟨cv4, nv4, tv4, ev4, rfl, hx4, hb4⟩
  have hbb4 := below_step hbb3 hbb3.size hb4
  have r4 := row_below r3 hb4
  clear a0 a1 a2 a3 a4 hb4
  obtain ⟨⟨ca, cc, rfl, cm, cx⟩, ⟨na, nc, rfl, nm, nx⟩, ⟨ta, tc, rfl, tm, tx⟩, ⟨ea, ec, rfl, em, ex⟩⟩ := hx4
  have hx4 : DfaAt w3.heap.size w4 (.slice ca d.classes.length cc) (.slice na d.next.length nc) (.slice ta d.tag.length tc) (.slice ea d.fin.length ec) d := ⟨⟨_, _, rfl, cm, cx⟩, ⟨_, _, rfl, nm, nx⟩, ⟨_, _, rfl, tm, tx⟩, ⟨_, _, rfl, em, ex⟩⟩
  clear cx nx tx ex
  obtain ⟨a0, a1, a2, a3, a4⟩ := row_five r4
  have hb4a : Below w4.heap.size w4 (w4.alloc (.cells #[.slice ca d.classes.length cc, .int .i64 d.width, .slice na d.next.length nc, .slice ta d.tag.length tc, .slice ea d.fin.length ec] 38)) := (Below.refl _ _).alloc (Nat.le_refl _) _
  have q4 : (w4.alloc (.cells #[.slice ca d.classes.length cc, .int .i64 d.width, .slice na d.next.length nc, .slice ta d.tag.length tc, .slice ea d.fin.length ec] 38)).heap[w4.heap.size]? = some (.cells #[.slice ca d.classes.length cc, .int .i64 d.width, .slice na d.next.length nc, .slice ta d.tag.length tc, .slice ea d.fin.length ec] 38 (0, 0)) := heap_alloc_new _ _
  go_wp2_with fail
  refine (himpl _ _ _ _ _ _ (hx4.below hb4a) hsm).mono ?_
  rintro e w5 ⟨rfl, hb5⟩
  have hbb4a := below_step hbb4 hbb4.size hb4a
  have hbb5 := below_step hbb4a hbb4a.size hb5
  have r5 := row_below (row_below r4 hb4a) hb5
  have q5 := row_below q4 hb5
  have hx5 := (hx4.below hb4a).below hb5
  clear a0 a1 a2 a3 a4 hb5 hb4a
  obtain ⟨a0, a1, a2, a3, a4⟩ := row_five r5
  obtain ⟨c0, c1, c2, c3, c4⟩ := row_five q5
  generalize dfaB d = sb at *
  have hne : (sb != sb) = false := by simp
  go_wp2
  go_region_held3 (fun w' => w'.cell? ⟨w.heap.size, 0, none⟩ = some (cv) ∧ w'.cell? ⟨w.heap.size, 1, none⟩ = some (.int .i64 d.width) ∧ w'.cell? ⟨w.heap.size, 2, none⟩ = some (nv) ∧ w'.cell? ⟨w.heap.size, 3, none⟩ = some (tv) ∧ w'.cell? ⟨w.heap.size, 4, none⟩ = some (ev) ∧ w'.cell? ⟨w4.heap.size, 0, none⟩ = some (.slice ca d.classes.length cc) ∧ w'.cell? ⟨w4.heap.size, 1, none⟩ = some (.int .i64 d.width) ∧ w'.cell? ⟨w4.heap.size, 2, none⟩ = some (.slice na d.next.length nc) ∧ w'.cell? ⟨w4.heap.size, 3, none⟩ = some (.slice ta d.tag.length tc) ∧ w'.cell? ⟨w4.heap.size, 4, none⟩ = some (.slice ea d.fin.length ec)) ((first | exact rows_ten (row_drew r5) (row_drew q5) | exact rows_ten r5 q5 | exact rows_ten (row_below (row_drew r5) hb6) (row_below (row_drew q5) hb6) | exact rows_ten (row_below (row_below (row_drew r5) hb6) hb7) (row_below (row_below (row_drew q5) hb6) hb7))) ((first | (go_at_call 21; refine (toDfa_ok _ _ _ _ d _ (hs.below hbb5.drew) hsm).mono ?_; rintro e w6 ⟨cv6, nv6, tv6, ev6, rfl, hx6, hb6⟩) | (go_at_call 23; refine (eqDfa_ok _ _ _ _ _ _ _ _ d _ ((hx5.below (Below.refl _ _).drew).below hb6) hx6).mono ?_; rintro e w7 ⟨rfl, hb7⟩)))
  go_wp2
  go_ret
  exact ⟨rfl, below_step (below_step hbb5.drew hbb5.size hb6) (Nat.le_trans hbb5.size hb6.size) hb7⟩
end Go.Proofs.Ytplhghhfdabccaa
