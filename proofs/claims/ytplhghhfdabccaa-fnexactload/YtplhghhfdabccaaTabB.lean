import Derived.Test.YtplhghhfdabccaaDfaS
import Derived.Test.YtplhghhfdabccaaRow
namespace Go.Proofs.Ytplhghhfdabccaa
open Go.RowKit

structure TabD where
  classes : List Int
  width : Int
  base : List Int
  dflt : List Int
  tag : List Int
  fin : List Int
  next : List Int
  chk : List Int

/-- The eight cells of a table. -/
structure TabAt (lo : Nat) (w : World) (cv bv fv tv ev nv kv : Value) (d : TabD) : Prop where
  classes : IntsAt lo w cv d.classes
  base : IntsAt lo w bv d.base
  dflt : IntsAt lo w fv d.dflt
  tag : IntsAt lo w tv d.tag
  fin : IntsAt lo w ev d.fin
  next : IntsAt lo w nv d.next
  chk : IntsAt lo w kv d.chk
theorem TabAt.below {lo : Nat} {w w' : World} {cv bv fv tv ev nv kv : Value} {d : TabD} (h : TabAt lo w cv bv fv tv ev nv kv d) (hb : Below w.heap.size w w') : TabAt lo w' cv bv fv tv ev nv kv d :=
  ⟨h.classes.below hb, h.base.below hb, h.dflt.below hb, h.tag.below hb, h.fin.below hb, h.next.below hb, h.chk.below hb⟩
def TabD.lists (d : TabD) : List (List Int) := [d.classes, d.base, d.dflt, d.tag, d.fin, d.next, d.chk]

/-- What is left of a size after several lists. -/
def szAll : List (List Int) → Int → Int
  | [], l => l
  | xs :: r, l => if szIntsF xs l < 0 then -1 else szAll r (szIntsF xs l)
theorem szAll_le : ∀ (ls : List (List Int)) (l : Int), 0 ≤ l → -1 ≤ szAll ls l ∧ szAll ls l ≤ l
  | [], l, h => by unfold szAll; omega
  | xs :: r, l, h => by
    have a := szIntsF_le xs l h
    unfold szAll
    split
    · omega
    · have := szAll_le r _ (show 0 ≤ szIntsF xs l by omega)
      omega
theorem szAll_small : ∀ (ls : List (List Int)) (l : Int), 0 ≤ l → l ≤ 1048576 → 0 ≤ szAll ls l → ∀ xs ∈ ls, xs.length ≤ 1048576
  | [], _, _, _, _, xs, hx => by cases hx
  | ys :: r, l, h0, h1, h, xs, hx => by
    unfold szAll at h
    split at h
    · omega
    · rename_i hn
      have a := szInts_small (show 0 ≤ szIntsF ys l by omega) h1
      rcases List.mem_cons.1 hx with rfl | hx
      · exact a.1
      · exact szAll_small r _ (by omega) a.2 h xs hx
theorem szAll_nil (l : Int) : szAll [] l = l := rfl
theorem szAll_stop {xs : List Int} {r : List (List Int)} {l : Int} (h : szIntsF xs l < 0) : szAll (xs :: r) l = -1 := by unfold szAll; rw [if_pos h]
theorem szAll_go {xs : List Int} {r : List (List Int)} {l : Int} (h : ¬szIntsF xs l < 0) : szAll (xs :: r) l = szAll r (szIntsF xs l) := by rw [szAll, if_neg h]
def TabSmall (d : TabD) : Prop := ∀ xs ∈ d.lists, xs.length ≤ 1048576

set_option maxRecDepth 100000 in
set_option maxHeartbeats 2000000 in
theorem eqTable_ok {l1 l2 : Nat} (cv bv fv tv ev nv kv cv2 bv2 fv2 tv2 ev2 nv2 kv2 : Value) (d : TabD) (w : World) (hs : TabAt l1 w cv bv fv tv ev nv kv d) (hs2 : TabAt l2 w cv2 bv2 fv2 tv2 ev2 nv2 kv2 d) :
    Calls Try.prog 30 #[.agg #[cv, .int .i64 d.width, bv, fv, tv, ev, nv, kv], .agg #[cv2, .int .i64 d.width, bv2, fv2, tv2, ev2, nv2, kv2]] w fun e w' => e = .returned (.bool true) ∧ Below w.heap.size w w' := by
  have hbb0 : Below w.heap.size w ((w.alloc (.cells #[cv, .int .i64 d.width, bv, fv, tv, ev, nv, kv] 48)).alloc (.cells #[cv2, .int .i64 d.width, bv2, fv2, tv2, ev2, nv2, kv2] 48)) := ((Below.refl _ _).alloc (Nat.le_refl _) _).alloc (by simp) _
  have r0 : ((w.alloc (.cells #[cv, .int .i64 d.width, bv, fv, tv, ev, nv, kv] 48)).alloc (.cells #[cv2, .int .i64 d.width, bv2, fv2, tv2, ev2, nv2, kv2] 48)).heap[w.heap.size]? = some (.cells #[cv, .int .i64 d.width, bv, fv, tv, ev, nv, kv] 48 (0, 0)) := heap_alloc2_old _ _ _
  have q0 : ((w.alloc (.cells #[cv, .int .i64 d.width, bv, fv, tv, ev, nv, kv] 48)).alloc (.cells #[cv2, .int .i64 d.width, bv2, fv2, tv2, ev2, nv2, kv2] 48)).heap[w.heap.size + 1]? = some (.cells #[cv2, .int .i64 d.width, bv2, fv2, tv2, ev2, nv2, kv2] 48 (0, 0)) := heap_alloc2_new _ _ _
  go_enter Try.func30, Try.ntmps30
  go_wp2_with fail
  refine (eqIntS_ok _ _ d.classes _ (hs.below hbb0).classes (hs2.below hbb0).classes).mono ?_
  rintro e w1 ⟨rfl, hb1⟩
  have hbb1 := below_step hbb0 hbb0.size hb1
  have r1 := row_below r0 hb1
  have q1 := row_below q0 hb1
  clear hb1
  have x0 := row_cells r1
  have x1 := row_cells q1
  go_wp2_with fail
  refine (eqIntS_ok _ _ d.base _ (hs.below hbb1).base (hs2.below hbb1).base).mono ?_
  rintro e w2 ⟨rfl, hb2⟩
  have hbb2 := below_step hbb1 hbb1.size hb2
  have r2 := row_below r1 hb2
  have q2 := row_below q1 hb2
  clear hb2
  clear x0 x1
  have x0 := row_cells r2
  have x1 := row_cells q2
  go_wp2_with fail
  refine (eqIntS_ok _ _ d.dflt _ (hs.below hbb2).dflt (hs2.below hbb2).dflt).mono ?_
  rintro e w3 ⟨rfl, hb3⟩
  have hbb3 := below_step hbb2 hbb2.size hb3
  have r3 := row_below r2 hb3
  have q3 := row_below q2 hb3
  clear hb3
  clear x0 x1
  have x0 := row_cells r3
  have x1 := row_cells q3
  go_wp2_with fail
  refine (eqIntS_ok _ _ d.tag _ (hs.below hbb3).tag (hs2.below hbb3).tag).mono ?_
  rintro e w4 ⟨rfl, hb4⟩
  have hbb4 := below_step hbb3 hbb3.size hb4
  have r4 := row_below r3 hb4
  have q4 := row_below q3 hb4
  clear hb4
  clear x0 x1
  have x0 := row_cells r4
  have x1 := row_cells q4
  go_wp2_with fail
  refine (eqIntS_ok _ _ d.fin _ (hs.below hbb4).fin (hs2.below hbb4).fin).mono ?_
  rintro e w5 ⟨rfl, hb5⟩
  have hbb5 := below_step hbb4 hbb4.size hb5
  have r5 := row_below r4 hb5
  have q5 := row_below q4 hb5
  clear hb5
  clear x0 x1
  have x0 := row_cells r5
  have x1 := row_cells q5
  go_wp2_with fail
  refine (eqIntS_ok _ _ d.next _ (hs.below hbb5).next (hs2.below hbb5).next).mono ?_
  rintro e w6 ⟨rfl, hb6⟩
  have hbb6 := below_step hbb5 hbb5.size hb6
  have r6 := row_below r5 hb6
  have q6 := row_below q5 hb6
  clear hb6
  clear x0 x1
  have x0 := row_cells r6
  have x1 := row_cells q6
  go_wp2_with fail
  refine (eqIntS_ok _ _ d.chk _ (hs.below hbb6).chk (hs2.below hbb6).chk).mono ?_
  rintro e w7 ⟨rfl, hb7⟩
  have hbb7 := below_step hbb6 hbb6.size hb7
  have r7 := row_below r6 hb7
  have q7 := row_below q6 hb7
  clear hb7
  clear x0 x1
  have x0 := row_cells r7
  have x1 := row_cells q7
  go_wp2
  go_ret
  exact ⟨rfl, hbb7⟩
end Go.Proofs.Ytplhghhfdabccaa
