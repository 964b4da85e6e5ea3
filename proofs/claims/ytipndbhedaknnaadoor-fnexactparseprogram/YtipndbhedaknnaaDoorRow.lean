import Derived.Test.YtipndbhedaknnaaDoorGen
import Derived.Deep.DrawnRows
namespace Go.Proofs.YtipndbhedaknnaaDoor
open Go.RowKit

/- WHOLE ROWS, carried along. -/
theorem row_below {w w' : World} {g : Nat} {o : Obj} (h : w.heap[g]? = some o) (hb : Below w.heap.size w w') : w'.heap[g]? = some o := (hb.block g (Array.getElem?_eq_some_iff.1 h).1).trans h
theorem row_lt {w : World} {g : Nat} {o : Obj} (h : w.heap[g]? = some o) : g < w.heap.size := (Array.getElem?_eq_some_iff.1 h).1
theorem row_cells {w : World} {g : Nat} {C : Array Value} {t : TypeId} (h : w.heap[g]? = some (.cells C t (0, 0))) : ∀ o, w.cell? ⟨g, o, none⟩ = C[o]? := fun _ => cell_of_row _ _ _ _ _ _ h
theorem row_five {w : World} {g : Nat} {a b c d e : Value} {t : TypeId} (h : w.heap[g]? = some (.cells #[a, b, c, d, e] t (0, 0))) : w.cell? ⟨g, 0, none⟩ = some a ∧ w.cell? ⟨g, 1, none⟩ = some b ∧ w.cell? ⟨g, 2, none⟩ = some c ∧ w.cell? ⟨g, 3, none⟩ = some d ∧ w.cell? ⟨g, 4, none⟩ = some e :=
  ⟨row_cells h 0, row_cells h 1, row_cells h 2, row_cells h 3, row_cells h 4⟩
theorem rows_ten {w : World} {g g' : Nat} {a b c d e a' b' c' d' e' : Value} {t t' : TypeId} (h : w.heap[g]? = some (.cells #[a, b, c, d, e] t (0, 0))) (h' : w.heap[g']? = some (.cells #[a', b', c', d', e'] t' (0, 0))) :
    w.cell? ⟨g, 0, none⟩ = some a ∧ w.cell? ⟨g, 1, none⟩ = some b ∧ w.cell? ⟨g, 2, none⟩ = some c ∧ w.cell? ⟨g, 3, none⟩ = some d ∧ w.cell? ⟨g, 4, none⟩ = some e ∧
    w.cell? ⟨g', 0, none⟩ = some a' ∧ w.cell? ⟨g', 1, none⟩ = some b' ∧ w.cell? ⟨g', 2, none⟩ = some c' ∧ w.cell? ⟨g', 3, none⟩ = some d' ∧ w.cell? ⟨g', 4, none⟩ = some e' :=
  ⟨row_cells h 0, row_cells h 1, row_cells h 2, row_cells h 3, row_cells h 4, row_cells h' 0, row_cells h' 1, row_cells h' 2, row_cells h' 3, row_cells h' 4⟩
theorem row_drew {w : World} {g : Nat} {o : Obj} (h : w.heap[g]? = some o) : w.drew.heap[g]? = some o := h
theorem row_eight {w : World} {g : Nat} {a b c d e f h i : Value} {t : TypeId} (z : w.heap[g]? = some (.cells #[a, b, c, d, e, f, h, i] t (0, 0))) : w.cell? ⟨g, 0, none⟩ = some a ∧ w.cell? ⟨g, 1, none⟩ = some b ∧ w.cell? ⟨g, 2, none⟩ = some c ∧ w.cell? ⟨g, 3, none⟩ = some d ∧ w.cell? ⟨g, 4, none⟩ = some e ∧ w.cell? ⟨g, 5, none⟩ = some f ∧ w.cell? ⟨g, 6, none⟩ = some h ∧ w.cell? ⟨g, 7, none⟩ = some i :=
  ⟨row_cells z 0, row_cells z 1, row_cells z 2, row_cells z 3, row_cells z 4, row_cells z 5, row_cells z 6, row_cells z 7⟩
theorem rows_sixteen {w : World} {g g' : Nat} {a b c d e f h i a' b' c' d' e' f' h' i' : Value} {t t' : TypeId} (z : w.heap[g]? = some (.cells #[a, b, c, d, e, f, h, i] t (0, 0))) (z' : w.heap[g']? = some (.cells #[a', b', c', d', e', f', h', i'] t' (0, 0))) : w.cell? ⟨g, 0, none⟩ = some a ∧ w.cell? ⟨g, 1, none⟩ = some b ∧ w.cell? ⟨g, 2, none⟩ = some c ∧ w.cell? ⟨g, 3, none⟩ = some d ∧ w.cell? ⟨g, 4, none⟩ = some e ∧ w.cell? ⟨g, 5, none⟩ = some f ∧ w.cell? ⟨g, 6, none⟩ = some h ∧ w.cell? ⟨g, 7, none⟩ = some i ∧ w.cell? ⟨g', 0, none⟩ = some a' ∧ w.cell? ⟨g', 1, none⟩ = some b' ∧ w.cell? ⟨g', 2, none⟩ = some c' ∧ w.cell? ⟨g', 3, none⟩ = some d' ∧ w.cell? ⟨g', 4, none⟩ = some e' ∧ w.cell? ⟨g', 5, none⟩ = some f' ∧ w.cell? ⟨g', 6, none⟩ = some h' ∧ w.cell? ⟨g', 7, none⟩ = some i' :=
  ⟨row_cells z 0, row_cells z 1, row_cells z 2, row_cells z 3, row_cells z 4, row_cells z 5, row_cells z 6, row_cells z 7, row_cells z' 0, row_cells z' 1, row_cells z' 2, row_cells z' 3, row_cells z' 4, row_cells z' 5, row_cells z' 6, row_cells z' 7⟩
theorem ret_str {a b : ByteArray} (h : a = b) : Ending.returned (.string a) = .returned (.string b) := by rw [h]
end Go.Proofs.YtipndbhedaknnaaDoor
