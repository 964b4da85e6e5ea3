import Derived.Test.YtplhghhfdabccaaDoorPackL
import Derived.Test.YtplhghhfdabccaaDoorPackK
namespace Go.Proofs.YtplhghhfdabccaaDoor
open Go.RowKit
attribute [local go_sem ↓] Go.wp_at_zero Go.wp_at_succ

theorem Tryd.infoU64 : (Tryd.prog.info? 56).map (fun i => (i.zero, i.size, i.bytes)) = some (some (.int .u64 0), 1, 8) := by kernel_rfl
/-- A row that has been made whole. -/
theorem own_full {w : World} {base : Nat} {e : TypeId} {g n : Nat} {xs : List Value} (h : w.ownsRow base e 1 (.slice (some ⟨g, 0, none⟩) n n) n xs) : w.heap[g]? = some (.cells xs.toArray e (0, 0)) := by
  rcases h.2 with ⟨h, _⟩ | ⟨g', cap, cr, h, _, hrow, _, _, hsz, htk⟩
  · cases h
  · cases h
    rw [hrow]
    congr 2
    apply Array.ext'
    rw [List.take_of_length_le (by simp [hsz])] at htk
    rw [htk]
theorem made_words (n : Nat) : (madeCells (Value.int .u64 0).cells (n * 1)).toList.toArray = wdRow n (fun _ => 0) := by
  apply Array.ext'
  apply List.ext_getElem
  · simp [madeCells, wdRow]
  · intro i h1 h2
    simp [madeCells, wdRow, Value.cells, Nat.mod_one]
theorem made_ints (n : Nat) : (madeCells (Value.int .i64 0).cells (n * 1)).toList.toArray = fnRow n (fun _ => 0) := by
  apply Array.ext'
  apply List.ext_getElem
  · simp [madeCells, fnRow]
  · intro i h1 h2
    simp [madeCells, fnRow, Value.cells, Nat.mod_one]

set_option maxRecDepth 100000 in
set_option maxHeartbeats 1000000 in
theorem newLayout_ok (w : World) : Calls Tryd.prog 20 #[] w fun e w' => ∃ p, e = .returned (.pointer (some ⟨p, 0, none⟩)) ∧ w.heap.size < p ∧ w'.heap[w.heap.size]? = some (.cells (wdRow 943 (fun _ => 0)) 56 (0, 0)) ∧ w'.heap[p]? = some (.cells (lyA w.heap.size (fun _ => .slice none 0 0)) 50 (0, 0)) ∧ Below w.heap.size w w' := by
  obtain ⟨i0, hi, hz0, hz1, hz2⟩ := info_parts Tryd.infoU64
  go_enter Tryd.func20, Tryd.ntmps20
  go_wp2_with (refine wpList_make_full _ rfl _ _ 48 rfl w.heap.size 56 i0 _ 1 Tryd.underlying48 hi hz0 hz1 _ _ _ _ 943 rfl rfl rfl rfl (by rw [hz2]; omega) (by unfold maxLen; omega) (Nat.le_refl _) ?_; intro w1 hown hgrow)
  have hbw : Below w.heap.size w w1 := (Below.refl _ _).grown hgrow (Nat.le_refl _) (by intro k h; cases h)
  have hr := own_full hown
  rw [made_words] at hr
  have hl : w.heap.size < w1.heap.size := row_lt hr
  go_ret
  exact ⟨w1.heap.size, rfl, hl, row_alloc hr, heap_alloc_new _ _, hbw.alloc hbw.size _⟩
end Go.Proofs.YtplhghhfdabccaaDoor
