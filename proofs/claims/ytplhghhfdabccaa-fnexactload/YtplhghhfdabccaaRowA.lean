import Derived.Test.YtplhghhfdabccaaFam
import Derived.Test.YtplhghhfdabccaaTabB
import Derived.Deep.Slices
namespace Go.Proofs.Ytplhghhfdabccaa
open Go.RowKit

def rowA (width : Int) (v : Nat → Value) : Array Value := #[v 0, .int .i64 width, v 1, v 2, v 3, v 4, v 5, v 6]
def offA (i : Nat) : Nat := if i = 0 then 0 else i + 1
theorem rowA_set (width : Int) (v : Nat → Value) (i : Nat) (hi : i < 7) (u : Value) : (rowA width v).setIfInBounds (offA i) u = rowA width (upd v i u) := by
  match i, hi with
  | 0, _ => rfl
  | 1, _ => rfl
  | 2, _ => rfl
  | 3, _ => rfl
  | 4, _ => rfl
  | 5, _ => rfl
  | 6, _ => rfl
def zeroA : Array Value := #[.slice none 0 0, .int .i64 0, .slice none 0 0, .slice none 0 0, .slice none 0 0, .slice none 0 0, .slice none 0 0, .slice none 0 0]
theorem one_new {w : World} {B : Nat} {x : Value} {t : TypeId} (h : w.heap[B]? = some (.cells #[x] t (0, 0))) : ∀ j u, [x][j]? = some u → w.cell? ((⟨B, 0, none⟩ : Addr).add j) = some u := World.news_of_block h
theorem updL_updL (l : Nat → List Int) (i : Nat) (a b : List Int) : updL (updL l i a) i b = updL l i b := by
  funext j; unfold updL; split <;> rfl
theorem row_A {w : World} {g : Nat} {width : Int} {v : Nat → Value} {t : TypeId} (h : w.heap[g]? = some (.cells (rowA width v) t (0, 0))) : w.cell? ⟨g, 0, none⟩ = some (v 0) ∧ w.cell? ⟨g, 1, none⟩ = some (.int .i64 width) ∧ w.cell? ⟨g, 2, none⟩ = some (v 1) ∧ w.cell? ⟨g, 3, none⟩ = some (v 2) ∧ w.cell? ⟨g, 4, none⟩ = some (v 3) ∧ w.cell? ⟨g, 5, none⟩ = some (v 4) ∧ w.cell? ⟨g, 6, none⟩ = some (v 5) ∧ w.cell? ⟨g, 7, none⟩ = some (v 6) :=
  ⟨row_cells h 0, row_cells h 1, row_cells h 2, row_cells h 3, row_cells h 4, row_cells h 5, row_cells h 6, row_cells h 7⟩
def tabOf (width : Int) (l : Nat → List Int) : TabD := ⟨l 0, width, l 1, l 2, l 3, l 4, l 5, l 6⟩
theorem Fam.setLow {gt n b : Nat} {W : World} {v : Nat → Value} {l : Nat → List Int} (h : Fam gt n W v l) (hb : b ≤ gt) (o : Nat) (u : Value) : Fam gt n (W.setCell ⟨b, o, none⟩ u) v l := h.keep fun c hc _ => heap_setCell_other _ _ _ _ (by simp; omega)
def set8 (W : World) (b : Nat) (u0 u1 u2 u3 u4 u5 u6 u7 : Value) : World := (((((((W.setCell ⟨b, 0, none⟩ u0).setCell ⟨b, 1, none⟩ u1).setCell ⟨b, 2, none⟩ u2).setCell ⟨b, 3, none⟩ u3).setCell ⟨b, 4, none⟩ u4).setCell ⟨b, 5, none⟩ u5).setCell ⟨b, 6, none⟩ u6).setCell ⟨b, 7, none⟩ u7
theorem below_set8 {B b : Nat} {w W : World} (h : Below B w W) (hb : B ≤ b) (u0 u1 u2 u3 u4 u5 u6 u7 : Value) : Below B w (set8 W b u0 u1 u2 u3 u4 u5 u6 u7) :=
  (((((((h.setCell (by exact hb) _).setCell (by exact hb) _).setCell (by exact hb) _).setCell (by exact hb) _).setCell (by exact hb) _).setCell (by exact hb) _).setCell (by exact hb) _).setCell (by exact hb) _
theorem Fam.set8 {gt n b : Nat} {W : World} {v : Nat → Value} {l : Nat → List Int} (h : Fam gt n W v l) (hb : b ≤ gt) (u0 u1 u2 u3 u4 u5 u6 u7 : Value) : Fam gt n (set8 W b u0 u1 u2 u3 u4 u5 u6 u7) v l :=
  (((((((h.setLow hb _ _).setLow hb _ _).setLow hb _ _).setLow hb _ _).setLow hb _ _).setLow hb _ _).setLow hb _ _).setLow hb _ _
/-- What Load answers: a table in new memory, no two of its lists in one block. -/
def LoadAns (w : World) (width code : Int) (l : Nat → List Int) (e : Ending) (w' : World) : Prop := ∃ (gt : Nat) (v : Nat → Value), e = .returned (.tuple #[.agg (rowA width v), .int .i64 code]) ∧ w.heap.size ≤ gt ∧ Fam gt 7 w' v l ∧ Below w.heap.size w w'
def slV (a : Nat → Option Addr) (l : Nat → List Int) (p : Nat → Nat) : Nat → Value := fun i => .slice (a i) (l i).length (p i)
theorem owns_form {B : Nat} {W : World} {v : Value} {xs : List Int} (h : Owns B W v xs) : ∃ r : Option Addr × Nat, v = .slice r.1 xs.length r.2 := by
  rcases h.2 with ⟨rfl, h0⟩ | ⟨g, cap, cur, rfl, _⟩
  · exact ⟨(none, 0), by rw [h0]⟩
  · exact ⟨(some ⟨g, 0, none⟩, cap), rfl⟩
theorem Fam.lower {gt gt' n : Nat} {W : World} {v : Nat → Value} {l : Nat → List Int} (h : Fam gt n W v l) (hg : gt' ≤ gt) : Fam gt' n W v l :=
  ⟨fun i hi => ⟨(h.own i hi).1, (h.own i hi).2.elim .inl fun ⟨g, cap, cur, hv, hb, r⟩ => .inr ⟨g, cap, cur, hv, by omega, r⟩⟩, h.apart⟩
theorem LoadAns.form {w w' : World} {width code : Int} {l : Nat → List Int} {e : Ending} (h : LoadAns w width code l e w') : ∃ (a : Nat → Option Addr) (p : Nat → Nat), e = .returned (.tuple #[.agg (rowA width (slV a l p)), .int .i64 code]) ∧ Fam w.heap.size 7 w' (slV a l p) l ∧ Below w.heap.size w w' := by
  obtain ⟨gt, v, rfl, h1, h2', h3⟩ := h
  have h2 := h2'.lower h1
  obtain ⟨F, hF⟩ := Go.Deep.choose_lt (α := Option Addr × Nat) (p := fun i r => v i = .slice r.1 (l i).length r.2) (fun i (hi : i < 7) => owns_form (h2.own i hi))
  have e : ∀ i, i < 7 → slV (fun i => (F i).1) l (fun i => (F i).2) i = v i := fun i hi => (hF i hi).symm
  refine ⟨fun i => (F i).1, fun i => (F i).2, ?_, ⟨fun i hi => by rw [e i hi]; exact h2.own i hi, fun i j hi hj hne b hb => by rw [e i hi] at hb; rw [e j hj]; exact h2.apart i j hi hj hne b hb⟩, h3⟩
  unfold rowA
  rw [e 0 (by omega), e 1 (by omega), e 2 (by omega), e 3 (by omega), e 4 (by omega), e 5 (by omega), e 6 (by omega)]
theorem Fam.keepOn {gt n : Nat} {W W' : World} {v : Nat → Value} {l : Nat → List Int} (h : Fam gt n W v l) (hk : ∀ i, i < n → ∀ b, (v i).ownBlock = some b → W'.heap[b]? = W.heap[b]?) : Fam gt n W' v l :=
  ⟨fun i hi => owns_keep (h.own i hi) (hk i hi), h.apart⟩
theorem Fam.tab {gt : Nat} {W : World} {v : Nat → Value} {l : Nat → List Int} (width : Int) (h : Fam gt 7 W v l) (hl : ∀ i, i < 7 → (l i).length ≤ 1048576) : TabAt (gt + 1) W (v 0) (v 1) (v 2) (v 3) (v 4) (v 5) (v 6) (tabOf width l) := by
  have o : ∀ i, i < 7 → IntsAt (gt + 1) W (v i) (l i) := fun i hi => (h.own i hi).at (by have := hl i hi; omega)
  exact ⟨o 0 (by omega), o 1 (by omega), o 2 (by omega), o 3 (by omega), o 4 (by omega), o 5 (by omega), o 6 (by omega)⟩
end Go.Proofs.Ytplhghhfdabccaa
