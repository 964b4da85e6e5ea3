import Derived.Test.YtgbdlgogccgciaaGreatDoorRep
import Derived.Deep.QuietTactic
import Derived.BigQuiet
import Derived.Deep.AppendLies
namespace Go.Proofs.YtgbdlgogccgciaaGreatDoor
open Go.RowKit
attribute [local go_sem ↓] Go.wp_at_zero Go.wp_at_succ


theorem wpList_build_eq {P : Program} {ops : Array Oper} {rest : List Oper} {o : Oper} {a : Act} {w : World} {Q : Exit → Act → World → Prop} (hg : o.guard = none) (t : TypeId) (parts : Array (Nat × Operand)) (ho : o.op = .build t parts)
    (vals : List (Nat × Value)) (hv : (parts.map fun (i, x) => (i, a.eval x)).toList = vals) (cells : Array Value) (hb : P.built t vals = some cells) (h : wpList P ops Q rest (a.put o.dst (.agg cells)) w) : wpList P ops Q (o :: rest) a w := by
  subst hv
  refine wpList_build hg t parts ho (by rw [hb]; rfl) ?_
  rw [hb]
  exact h

set_option maxRecDepth 100000 in
set_option maxHeartbeats 400000 in
theorem join_set {lo : Nat} (tv v : Value) (rs : List (Int × Int)) (w : World) (hs : RangesAt lo w v rs) (hok : rangesOK 0 rs = true) :
    Calls Tryz.prog 79 #[.agg #[.int .i64 1, v, .int .i64 0, .int .i64 0, .int .i64 0], tv] w fun e w' => ∃ mg : Nat, e = .returned (.iface 169 (.agg #[.pointer (some ⟨mg, 0, none⟩)])) ∧ w.heap.size ≤ mg ∧ w'.heap[mg]? = some (.cells (marksArr (marksF rs)) 141 (0, 0)) ∧ Below w.heap.size w w' := by
  have hzv := (zero_of_info Tryz.zeroMarks).1
  have hzi : Hid _ := (zero_of_info Tryz.zeroMarks).2
  go_enter Tryz.func79, Tryz.ntmps79
  go_wp2_with fail
  refine (marksOf_ok (lo := lo) _ rs _ (hs.below ?_) hok).mono ?_
  · exact (Below.refl _ _).alloc (Nat.le_refl _) _
  rintro e w2 ⟨rfl, hb2⟩
  go_wp2_with (refine wpList_store_row rfl 141 (.tmp 5) _ rfl w2.heap.size _ rfl rfl 141 _ (heap_alloc_new _ _) (by rw [marksArr_size]; exact hzi.out) (by rw [marksArr_size, marksArr_size]) (marksArr_one _) ?_)
  go_ret
  have hz2 := hb2.size
  have hB := below_step ((Below.refl w.heap.size w).alloc (Nat.le_refl _) _) (by simp) hb2
  exact ⟨_, rfl, hB.size, setRow_heap _ _ _ _ _ _ (heap_alloc_new _ _), Below.setRow (hB.alloc hB.size _) hB.size _⟩

set_option maxRecDepth 100000 in
set_option maxHeartbeats 400000 in
theorem join_seq (sv x y : Value) (t u : TypeId) (g o c : Nat) (w : World) (c0 : w.cell? ⟨g, o, none⟩ = some (.iface t x)) (c1 : w.cell? ⟨g, o + 1, none⟩ = some (.iface u y)) :
    Calls Tryz.prog 79 #[.agg #[.int .i64 2, sv, .int .i64 0, .int .i64 0, .int .i64 0], .slice (some ⟨g, o, none⟩) 2 c] w fun e w' => e = .returned (.iface 161 (.agg #[.iface t x, .iface u y])) ∧ Below w.heap.size w w' := by
  have hg : g < w.heap.size := block_lt_of_cell c0
  go_enter Tryz.func79, Tryz.ntmps79
  go_wp2
  go_quiet (fail)
  go_wp2
  go_ret
  exact ⟨rfl, below_drewN ((Below.refl _ _).alloc (Nat.le_refl _) _) _⟩

set_option maxRecDepth 100000 in
set_option maxHeartbeats 400000 in
theorem join_alt (sv x y : Value) (t u : TypeId) (g o c : Nat) (w : World) (c0 : w.cell? ⟨g, o, none⟩ = some (.iface t x)) (c1 : w.cell? ⟨g, o + 1, none⟩ = some (.iface u y)) :
    Calls Tryz.prog 79 #[.agg #[.int .i64 3, sv, .int .i64 0, .int .i64 0, .int .i64 0], .slice (some ⟨g, o, none⟩) 2 c] w fun e w' => e = .returned (.iface 162 (.agg #[.iface t x, .iface u y])) ∧ Below w.heap.size w w' := by
  have hg : g < w.heap.size := block_lt_of_cell c0
  go_enter Tryz.func79, Tryz.ntmps79
  go_wp2
  go_quiet (fail)
  go_wp2
  go_ret
  exact ⟨rfl, below_drewN ((Below.refl _ _).alloc (Nat.le_refl _) _) _⟩

set_option maxRecDepth 100000 in
set_option maxHeartbeats 400000 in
theorem join_grp (sv x : Value) (t : TypeId) (gr : Int) (g o c : Nat) (w : World) (c0 : w.cell? ⟨g, o, none⟩ = some (.iface t x)) :
    Calls Tryz.prog 79 #[.agg #[.int .i64 5, sv, .int .i64 0, .int .i64 0, .int .i64 gr], .slice (some ⟨g, o, none⟩) 1 c] w fun e w' => e = .returned (.iface 165 (.agg #[.iface t x, .int .i64 gr])) ∧ Below w.heap.size w w' := by
  have hg : g < w.heap.size := block_lt_of_cell c0
  go_enter Tryz.func79, Tryz.ntmps79
  go_wp2
  go_quiet (fail)
  go_wp2
  go_ret
  exact ⟨rfl, below_drewN ((Below.refl _ _).alloc (Nat.le_refl _) _) _⟩

set_option maxRecDepth 100000 in
set_option maxHeartbeats 400000 in
theorem join_rep (sv l : Value) (n : Nat) (a mn mx : Int) (g o c : Nat) (w : World) (c0 : w.cell? ⟨g, o, none⟩ = some l) (hp : IsPart n l a) (hbd : boundsB mn mx = true) :
    Calls Tryz.prog 79 #[.agg #[.int .i64 4, sv, .int .i64 mn, .int .i64 mx, .int .i64 0], .slice (some ⟨g, o, none⟩) 1 c] w fun e w' => ∃ t x, e = .returned (.iface t x) ∧ IsPart (n + 1) (.iface t x) (capW (a * copies mn mx)) ∧ Below w.heap.size w w' := by
  have hg : g < w.heap.size := block_lt_of_cell c0
  go_enter Tryz.func79, Tryz.ntmps79
  go_wp2
  go_region_held3 (fun w' => w'.cell? ⟨g, o, none⟩ = some l ∧ w'.cell? ⟨w.heap.size, 2, none⟩ = some (.int .i64 mn) ∧ w'.cell? ⟨w.heap.size, 3, none⟩ = some (.int .i64 mx)) ((first | go_keep | exact ⟨(hb2.cell (by simp; omega)).trans ((World.cell?_of_block (Below.heap_alloc _ _ _ hg)).trans c0), (hb2.cell (by simp)).trans (by simp), (hb2.cell (by simp)).trans (by simp)⟩)) ((go_at_call 90; refine (repeated_ok n _ a mn mx _ hp hbd).mono ?_; rintro e w2 ⟨t, x, rfl, hp2, hb2⟩))
  go_wp2
  go_ret
  exact ⟨t, x, rfl, hp2, below_step ((Below.refl _ _).alloc (Nat.le_refl _) _).drew (by simp) hb2⟩
end Go.Proofs.YtgbdlgogccgciaaGreatDoor
namespace Go.Proofs.YtgbdlgogccgciaaGreatDoor
open Go.RowKit

/- THE STACK OF WEIGHTS, bottom first. -/
def wnode (n : NodeD) (args : List Int) : Int :=
  if n.kind = 1 then 1
  else if n.kind = 2 ∨ n.kind = 3 then capW (args.getD 0 0 + args.getD 1 0)
  else if n.kind = 4 then capW (args.getD 0 0 * copies n.min n.max)
  else args.getD 0 0
def wstep (st : List Int) (n : NodeD) : List Int := st.take (st.length - arity n.kind) ++ [wnode n (st.drop (st.length - arity n.kind))]
def liftW : List NodeD → List Int → Option (List Int)
  | [], st => some st
  | n :: ns, st => if st.length < arity n.kind ∨ nodeB n = false then none else liftW ns (wstep st n)
def liftF (ns : List NodeD) : Option Int := match liftW ns [] with
  | some [wt] => some wt
  | _ => none

theorem liftW_drop (ns : List NodeD) (i : Nat) (hi : i < ns.length) (st : List Int) (nd : NodeD) (h : ns.getD i .zero = nd) :
    liftW (ns.drop i) st = if st.length < arity nd.kind ∨ nodeB nd = false then none else liftW (ns.drop (i + 1)) (wstep st nd) := by
  rw [List.drop_eq_getElem_cons hi]
  have : ns[i] = nd := by rw [← h]; simp [List.getD, hi]
  rw [this]
  rfl

/-- The values on a stack and their weights. -/
def Parts (N : Nat) (xs : List Value) (st : List Int) : Prop := xs.length = st.length ∧ ∀ j, j < st.length → ∃ t x, xs[j]? = some (.iface t x) ∧ IsPart N (.iface t x) (st.getD j 0)

theorem Parts.mono {N M : Nat} {xs : List Value} {st : List Int} (h : Parts N xs st) (hm : N ≤ M) : Parts M xs st :=
  ⟨h.1, fun j hj => by obtain ⟨t, x, h1, h2⟩ := h.2 j hj; exact ⟨t, x, h1, IsPart.mono N M _ _ hm h2⟩⟩
theorem Parts.push {N : Nat} {xs : List Value} {st : List Int} (h : Parts N xs st) (m : Nat) (hm : m ≤ st.length) {t : TypeId} {x : Value} {a : Int} (hp : IsPart N (.iface t x) a) : Parts N (xs.take m ++ [.iface t x]) (st.take m ++ [a]) := by
  have hl := h.1
  refine ⟨by simp [hl], fun j hj => ?_⟩
  simp only [List.length_append, List.length_take, List.length_cons, List.length_nil, Nat.min_eq_left hm] at hj
  by_cases e : j = m
  · subst e
    refine ⟨t, x, ?_, ?_⟩
    · rw [List.getElem?_append_right (by simp; omega)]; simp [hl, Nat.min_eq_left hm]
    · have : (st.take j ++ [a]).getD j 0 = a := by
        rw [List.getD_eq_getElem?_getD, List.getElem?_append_right (by simp; omega)]; simp [Nat.min_eq_left hm]
      rw [this]; exact hp
  · obtain ⟨t', x', h1, h2⟩ := h.2 j (by omega)
    refine ⟨t', x', ?_, ?_⟩
    · rw [List.getElem?_append_left (by simp [hl]; omega), List.getElem?_take, if_pos (by omega)]; exact h1
    · have : (st.take m ++ [a]).getD j 0 = st.getD j 0 := by
        rw [List.getD_eq_getElem?_getD, List.getElem?_append_left (by simp; omega), List.getElem?_take, if_pos (by omega), List.getD_eq_getElem?_getD]
      rw [this]; exact h2

end Go.Proofs.YtgbdlgogccgciaaGreatDoor
