import Derived.Test.YtplhghhfdabccaaRep
import Derived.Deep.QuietTactic
import Derived.BigQuiet
namespace Go.Proofs.Ytplhghhfdabccaa
open Go.RowKit
attribute [local go_sem ↓] Go.wp_at_zero Go.wp_at_succ


theorem wpList_build_eq {P : Program} {ops : Array Oper} {rest : List Oper} {o : Oper} {a : Act} {w : World} {Q : Exit → Act → World → Prop} (hg : o.guard = none) (t : TypeId) (parts : Array (Nat × Operand)) (ho : o.op = .build t parts)
    (vals : List (Nat × Value)) (hv : (parts.map fun (i, x) => (i, a.eval x)).toList = vals) (cells : Array Value) (hb : P.built t vals = some cells) (h : wpList P ops Q rest (a.put o.dst (.agg cells)) w) : wpList P ops Q (o :: rest) a w := by
  subst hv
  refine wpList_build hg t parts ho (by rw [hb]; rfl) ?_
  rw [hb]
  exact h

set_option maxRecDepth 100000 in
set_option maxHeartbeats 400000 in
theorem join_set {lo : Nat} (tv v : Value) (rs : List (Int × Int)) (w : World) (hs : RangesAt lo w v rs) (hok : rangesOK 0 rs = true) :
    Calls Try.prog 121 #[.agg #[.int .i64 1, v, .int .i64 0, .int .i64 0, .int .i64 0], tv] w fun e w' => ∃ mg : Nat, e = .returned (.iface 189 (.agg #[.pointer (some ⟨mg, 0, none⟩)])) ∧ w.heap.size ≤ mg ∧ w'.heap[mg]? = some (.cells (marksArr (marksF rs)) 185 (0, 0)) ∧ Below w.heap.size w w' := by
  have hzv := (zero_of_info Try.zeroMarks).1
  have hzi : Hid _ := (zero_of_info Try.zeroMarks).2
  go_enter Try.func121, Try.ntmps121
  go_wp2_with fail
  refine (marksOf_ok (lo := lo) _ rs _ (hs.below ?_) hok).mono ?_
  · exact (Below.refl _ _).alloc (Nat.le_refl _) _
  rintro e w2 ⟨rfl, hb2⟩
  go_wp2_with (refine wpList_store_row rfl 185 (.tmp 5) _ rfl w2.heap.size _ rfl rfl 185 _ (heap_alloc_new _ _) (by rw [marksArr_size]; exact hzi.out) (by rw [marksArr_size, marksArr_size]) (marksArr_one _) ?_)
  go_ret
  have hz2 := hb2.size
  have hB := below_step ((Below.refl w.heap.size w).alloc (Nat.le_refl _) _) (by simp) hb2
  exact ⟨_, rfl, hB.size, setRow_heap _ _ _ _ _ _ (heap_alloc_new _ _), Below.setRow (hB.alloc hB.size _) hB.size _⟩

set_option maxRecDepth 100000 in
set_option maxHeartbeats 400000 in
theorem join_seq (sv x y : Value) (t u : TypeId) (g o c : Nat) (w : World) (c0 : w.cell? ⟨g, o, none⟩ = some (.iface t x)) (c1 : w.cell? ⟨g, o + 1, none⟩ = some (.iface u y)) :
    Calls Try.prog 121 #[.agg #[.int .i64 2, sv, .int .i64 0, .int .i64 0, .int .i64 0], .slice (some ⟨g, o, none⟩) 2 c] w fun e w' => e = .returned (.iface 179 (.agg #[.iface t x, .iface u y])) ∧ Below w.heap.size w w' := by
  have hg : g < w.heap.size := block_lt_of_cell c0
  go_enter Try.func121, Try.ntmps121
  go_wp2
  go_quiet (fail)
  go_wp2
  go_ret
  exact ⟨rfl, below_drewN ((Below.refl _ _).alloc (Nat.le_refl _) _) _⟩

set_option maxRecDepth 100000 in
set_option maxHeartbeats 400000 in
theorem join_alt (sv x y : Value) (t u : TypeId) (g o c : Nat) (w : World) (c0 : w.cell? ⟨g, o, none⟩ = some (.iface t x)) (c1 : w.cell? ⟨g, o + 1, none⟩ = some (.iface u y)) :
    Calls Try.prog 121 #[.agg #[.int .i64 3, sv, .int .i64 0, .int .i64 0, .int .i64 0], .slice (some ⟨g, o, none⟩) 2 c] w fun e w' => e = .returned (.iface 180 (.agg #[.iface t x, .iface u y])) ∧ Below w.heap.size w w' := by
  have hg : g < w.heap.size := block_lt_of_cell c0
  go_enter Try.func121, Try.ntmps121
  go_wp2
  go_quiet (fail)
  go_wp2
  go_ret
  exact ⟨rfl, below_drewN ((Below.refl _ _).alloc (Nat.le_refl _) _) _⟩

set_option maxRecDepth 100000 in
set_option maxHeartbeats 400000 in
theorem join_grp (sv x : Value) (t : TypeId) (gr : Int) (g o c : Nat) (w : World) (c0 : w.cell? ⟨g, o, none⟩ = some (.iface t x)) :
    Calls Try.prog 121 #[.agg #[.int .i64 5, sv, .int .i64 0, .int .i64 0, .int .i64 gr], .slice (some ⟨g, o, none⟩) 1 c] w fun e w' => e = .returned (.iface 183 (.agg #[.iface t x, .int .i64 gr])) ∧ Below w.heap.size w w' := by
  have hg : g < w.heap.size := block_lt_of_cell c0
  go_enter Try.func121, Try.ntmps121
  go_wp2
  go_quiet (fail)
  go_wp2
  go_ret
  exact ⟨rfl, below_drewN ((Below.refl _ _).alloc (Nat.le_refl _) _) _⟩

set_option maxRecDepth 100000 in
set_option maxHeartbeats 400000 in
theorem join_rep (sv l : Value) (n : Nat) (a mn mx : Int) (g o c : Nat) (w : World) (c0 : w.cell? ⟨g, o, none⟩ = some l) (hp : IsPart n l a) (hbd : boundsB mn mx = true) :
    Calls Try.prog 121 #[.agg #[.int .i64 4, sv, .int .i64 mn, .int .i64 mx, .int .i64 0], .slice (some ⟨g, o, none⟩) 1 c] w fun e w' => ∃ t x, e = .returned (.iface t x) ∧ IsPart (n + 1) (.iface t x) (capW (a * copies mn mx)) ∧ Below w.heap.size w w' := by
  have hg : g < w.heap.size := block_lt_of_cell c0
  go_enter Try.func121, Try.ntmps121
  go_wp2
  go_region_held3 (fun w' => w'.cell? ⟨g, o, none⟩ = some l ∧ w'.cell? ⟨w.heap.size, 2, none⟩ = some (.int .i64 mn) ∧ w'.cell? ⟨w.heap.size, 3, none⟩ = some (.int .i64 mx)) ((first | go_keep | exact ⟨(hb2.cell (by simp; omega)).trans ((World.cell?_of_block (Below.heap_alloc _ _ _ hg)).trans c0), (hb2.cell (by simp)).trans (by simp), (hb2.cell (by simp)).trans (by simp)⟩)) ((go_at_call 127; refine (repeated_ok n _ a mn mx _ hp hbd).mono ?_; rintro e w2 ⟨t, x, rfl, hp2, hb2⟩))
  go_wp2
  go_ret
  exact ⟨t, x, rfl, hp2, below_step ((Below.refl _ _).alloc (Nat.le_refl _) _).drew (by simp) hb2⟩
end Go.Proofs.Ytplhghhfdabccaa
