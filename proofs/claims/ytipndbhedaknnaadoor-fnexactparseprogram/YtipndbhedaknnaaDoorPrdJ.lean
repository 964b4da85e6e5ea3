import Derived.Test.YtipndbhedaknnaaDoorPrdI
namespace Go.Proofs.YtipndbhedaknnaaDoor
open Go.RowKit
attribute [local go_sem ↓] Go.wp_at_zero Go.wp_at_succ

/- THE LATEST STATE. -/
theorem PrAt.nil {B br : Nat} {W : World} {sv : Value} {cv : Nat → Value} {a b : Int} (h : PrAt B br W sv cv ⟨a, b, []⟩) : ∃ ao cap, sv = .slice ao 0 cap := by
  rcases h.V.row.2 with ⟨hv, _⟩ | ⟨g, cap, cur, hv, _⟩
  · exact ⟨_, _, hv⟩
  · exact ⟨_, _, hv⟩
theorem PrAt.form {B br : Nat} {W : World} {sv : Value} {cv : Nat → Value} {a b : Int} {ini : List StD} {s : StD} (h : PrAt B br W sv cv ⟨a, b, ini ++ [s]⟩) : ∃ sg cap, sv = .slice (some ⟨sg, 0, none⟩) (ini.length + 1) cap := by
  rcases h.V.row.2 with ⟨_, h0⟩ | ⟨g, cap, cur, hv, _⟩
  · simp at h0
  · exact ⟨g, cap, by rw [hv, List.length_append]; rfl⟩
theorem PrAt.sgB {B br : Nat} {W : World} {sg cap : Nat} {cv : Nat → Value} {p : PrD} {n : Nat} (h : PrAt B br W (.slice (some ⟨sg, 0, none⟩) n cap) cv p) : B ≤ sg ∧ sg < W.heap.size := h.V.lt (.inl rfl)
theorem PrAt.last {B br : Nat} {W : World} {sg cap : Nat} {cv : Nat → Value} {a b : Int} {ini : List StD} {s : StD} (h : PrAt B br W (.slice (some ⟨sg, 0, none⟩) (ini.length + 1) cap) cv ⟨a, b, ini ++ [s]⟩) (c : Nat) (hc : c < 10) : W.cell? ⟨sg, ini.length * 10 + c, none⟩ = (stCells (cv ini.length) s)[c]? ∧ W.frozen? ⟨sg, ini.length * 10 + c, none⟩ = false := by
  have hr : W.ownsRow B 45 10 (.slice (some ⟨sg, 0, none⟩) (ini.length + 1) cap) (ini.length + 1) (stsCells cv ini ++ stCells (cv ini.length) s) := by
    have := h.V.row
    rw [stsCells_app, List.length_append] at this
    exact this
  have hl := stsCells_len cv ini
  refine ⟨?_, hr.frozenAt _⟩
  rw [hr.cellAt _ (by omega), List.getElem?_append_right (by omega), show ini.length * 10 + c - (stsCells cv ini).length = c by omega]
theorem PrAt.cell {B br : Nat} {W : World} {sg cap : Nat} {cv : Nat → Value} {a b : Int} {ini : List StD} {s s' : StD} (h : PrAt B br W (.slice (some ⟨sg, 0, none⟩) (ini.length + 1) cap) cv ⟨a, b, ini ++ [s]⟩) (hbr : br < B) {c : Nat} (hc : c < 10) {u : Value} (hs : s'.cases = s.cases) (he : stCells (cv ini.length) s' = (stCells (cv ini.length) s).set c u) :
    PrAt B br (W.setCell ⟨sg, ini.length * 10 + c, none⟩ u) (.slice (some ⟨sg, 0, none⟩) (ini.length + 1) cap) cv ⟨a, b, ini ++ [s']⟩ :=
  ⟨(Below.heap_setCell _ _ _ _ (by have := h.sgB.1; show br ≠ sg; omega)).trans h.box, h.V.cell hc hs he⟩
theorem MildB.setSg {B br sg : Nat} {A : World} (j : Nat) (v : Value) (hsg : B ≤ sg) (hc : ∃ c t f, A.heap[sg]? = some (.cells c t f)) : MildB B br A (A.setCell ⟨sg, j, none⟩ v) :=
  ⟨rfl, rfl, rfl, by simp, fun i _ _ h2 => Below.heap_setCell A _ _ i (fun e => by
    obtain ⟨c, t, f, hc⟩ := hc
    have e' : i = sg := e
    subst e'
    have := h2 hsg _ hc
    cases this)⟩
theorem PrAt.cells {B br : Nat} {W : World} {sg cap n : Nat} {cv : Nat → Value} {p : PrD} (h : PrAt B br W (.slice (some ⟨sg, 0, none⟩) n cap) cv p) : ∃ c t f, W.heap[sg]? = some (.cells c t f) := by
  rcases h.V.row.2 with ⟨h0, _⟩ | ⟨g, cap', cur, hv, _, h2, _⟩
  · cases h0
  · cases hv
    exact ⟨_, _, _, h2⟩
set_option maxRecDepth 100000 in
set_option maxHeartbeats 1000000 in
theorem latest_nil (B br : Nat) (sv : Value) (cv : Nat → Value) (a b : Int) (w : World) (h : PrAt B br w sv cv ⟨a, b, []⟩) :
    Calls Tryd.prog 39 #[.pointer (some ⟨br, 0, none⟩)] w fun e w' => e = .returned (.pointer none) ∧ w' = w := by
  obtain ⟨ao, cap, rfl⟩ := h.nil
  have c2 := h.c2
  go_enter Tryd.func39, Tryd.ntmps39
  go_wp2
  go_ret
  exact ⟨rfl, rfl⟩
set_option maxRecDepth 100000 in
set_option maxHeartbeats 1000000 in
theorem latest_last (B br sg cap : Nat) (cv : Nat → Value) (a b : Int) (ini : List StD) (s : StD) (w : World) (h : PrAt B br w (.slice (some ⟨sg, 0, none⟩) (ini.length + 1) cap) cv ⟨a, b, ini ++ [s]⟩) (hn : ini.length ≤ 200) :
    Calls Tryd.prog 39 #[.pointer (some ⟨br, 0, none⟩)] w fun e w' => e = .returned (.pointer (some ⟨sg, ini.length * 10, none⟩)) ∧ w' = w := by
  have c2 := h.c2
  obtain ⟨k, hk⟩ : ∃ k, ini.length = k := ⟨_, rfl⟩
  rw [hk] at c2 hn ⊢
  clear hk h
  have h0 : (0 : Int) ≤ (k : Int) := by omega
  have h1 : (k : Int) < (k : Int) + 1 := by omega
  go_enter Tryd.func39, Tryd.ntmps39
  go_wp2
  go_ret
  exact ⟨by simp, rfl⟩
end Go.Proofs.YtipndbhedaknnaaDoor
