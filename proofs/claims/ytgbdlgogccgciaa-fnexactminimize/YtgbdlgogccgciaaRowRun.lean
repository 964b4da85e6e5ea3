import Derived.Test.YtgbdlgogccgciaaGen
import Derived.Deep.DrawnRows
import Derived.Test.YtgbdlgogccgciaaWithinDfaI
namespace Go.Proofs.Ytgbdlgogccgciaa
open Go.RowKit

/- WHOLE ROWS, carried along. -/
theorem row_below {w w' : World} {g : Nat} {o : Obj} (h : w.heap[g]? = some o) (hb : Below w.heap.size w w') : w'.heap[g]? = some o := (hb.block g (Array.getElem?_eq_some_iff.1 h).1).trans h
theorem row_lt {w : World} {g : Nat} {o : Obj} (h : w.heap[g]? = some o) : g < w.heap.size := (Array.getElem?_eq_some_iff.1 h).1
theorem row_cells {w : World} {g : Nat} {C : Array Value} {t : TypeId} (h : w.heap[g]? = some (.cells C t (0, 0))) : ∀ o, w.cell? ⟨g, o, none⟩ = C[o]? := fun _ => cell_of_row _ _ _ _ _ _ h
theorem row_five {w : World} {g : Nat} {a b c d e : Value} {t : TypeId} (h : w.heap[g]? = some (.cells #[a, b, c, d, e] t (0, 0))) : w.cell? ⟨g, 0, none⟩ = some a ∧ w.cell? ⟨g, 1, none⟩ = some b ∧ w.cell? ⟨g, 2, none⟩ = some c ∧ w.cell? ⟨g, 3, none⟩ = some d ∧ w.cell? ⟨g, 4, none⟩ = some e :=
  ⟨row_cells h 0, row_cells h 1, row_cells h 2, row_cells h 3, row_cells h 4⟩
theorem rows_ten {w : World} {g g' : Nat} {a b c d e a' b' c' d' e' : Value} {t t' : TypeId} (h : w.heap[g]? = some (.cells #[a, b, c, d, e] t (0, 0))) (h' : w.heap[g']? = some (.cells #[a', b', c', d', e'] t' (0, 0))) :
    w.cell? ⟨g, 0, none⟩ = some a ∧ w.cell? ⟨g, 1, none⟩ = some b ∧ w.cell? ⟨g, 2, none⟩ = some c ∧ w.cell? ⟨g, 3, none⟩ = some d ∧ w.cell? ⟨g, 4, none⟩ = some e ∧
    w.cell? ⟨g', 0, none⟩ = some a' ∧ w.cell? ⟨g', 1, none⟩ = some b' ∧ w.cell? ⟨g', 2, none⟩ = some c' ∧ w.cell? ⟨g', 3, none⟩ = some d' ∧ w.cell? ⟨g', 4, none⟩ = some e' :=
  ⟨row_cells h 0, row_cells h 1, row_cells h 2, row_cells h 3, row_cells h 4, row_cells h' 0, row_cells h' 1, row_cells h' 2, row_cells h' 3, row_cells h' 4⟩
theorem row_drew {w : World} {g : Nat} {o : Obj} (h : w.heap[g]? = some o) : w.drew.heap[g]? = some o := h
theorem row_eight {w : World} {g : Nat} {a b c d e f h i : Value} {t : TypeId} (z : w.heap[g]? = some (.cells #[a, b, c, d, e, f, h, i] t (0, 0))) : w.cell? ⟨g, 0, none⟩ = some a ∧ w.cell? ⟨g, 1, none⟩ = some b ∧ w.cell? ⟨g, 2, none⟩ = some c ∧ w.cell? ⟨g, 3, none⟩ = some d ∧ w.cell? ⟨g, 4, none⟩ = some e ∧ w.cell? ⟨g, 5, none⟩ = some f ∧ w.cell? ⟨g, 6, none⟩ = some h ∧ w.cell? ⟨g, 7, none⟩ = some i :=
  ⟨row_cells z 0, row_cells z 1, row_cells z 2, row_cells z 3, row_cells z 4, row_cells z 5, row_cells z 6, row_cells z 7⟩
theorem rows_sixteen {w : World} {g g' : Nat} {a b c d e f h i a' b' c' d' e' f' h' i' : Value} {t t' : TypeId} (z : w.heap[g]? = some (.cells #[a, b, c, d, e, f, h, i] t (0, 0))) (z' : w.heap[g']? = some (.cells #[a', b', c', d', e', f', h', i'] t' (0, 0))) : w.cell? ⟨g, 0, none⟩ = some a ∧ w.cell? ⟨g, 1, none⟩ = some b ∧ w.cell? ⟨g, 2, none⟩ = some c ∧ w.cell? ⟨g, 3, none⟩ = some d ∧ w.cell? ⟨g, 4, none⟩ = some e ∧ w.cell? ⟨g, 5, none⟩ = some f ∧ w.cell? ⟨g, 6, none⟩ = some h ∧ w.cell? ⟨g, 7, none⟩ = some i ∧ w.cell? ⟨g', 0, none⟩ = some a' ∧ w.cell? ⟨g', 1, none⟩ = some b' ∧ w.cell? ⟨g', 2, none⟩ = some c' ∧ w.cell? ⟨g', 3, none⟩ = some d' ∧ w.cell? ⟨g', 4, none⟩ = some e' ∧ w.cell? ⟨g', 5, none⟩ = some f' ∧ w.cell? ⟨g', 6, none⟩ = some h' ∧ w.cell? ⟨g', 7, none⟩ = some i' :=
  ⟨row_cells z 0, row_cells z 1, row_cells z 2, row_cells z 3, row_cells z 4, row_cells z 5, row_cells z 6, row_cells z 7, row_cells z' 0, row_cells z' 1, row_cells z' 2, row_cells z' 3, row_cells z' 4, row_cells z' 5, row_cells z' 6, row_cells z' 7⟩
theorem ret_str {a b : ByteArray} (h : a = b) : Ending.returned (.string a) = .returned (.string b) := by rw [h]
end Go.Proofs.Ytgbdlgogccgciaa
namespace Go.Proofs.Ytgbdlgogccgciaa
open Go.RowKit

/- RUNNING AN AUTOMATON. -/
def clsAt (d : DfaD) (c : Nat) : Int := d.classes.getD c 0
def nextAt (d : DfaD) (k : Nat) : Int := d.next.getD k 0
def stepF (d : DfaD) (s : Int) (c : Nat) : Int := nextAt d (s * d.width + clsAt d c).toNat
def runF (d : DfaD) (s : Int) (l : List UInt8) : Int := l.foldl (fun s c => stepF d s c.toNat) s
/-- What RunDfa answers. -/
def runB (d : DfaD) (s : Int) (l : List UInt8) : Int := if dfaB d && btw s 0 (d.tag.length - 1) then runF d s l else -1

structure DfaFine (d : DfaD) : Prop where
  cl : d.classes.length = 256
  w1 : 1 ≤ d.width
  w2 : d.width ≤ 256
  n1 : 1 ≤ (d.tag.length : Int)
  n2 : (d.tag.length : Int) ≤ 4000
  fl : d.fin.length = d.tag.length
  nl : (d.next.length : Int) = d.tag.length * d.width
  cs : allIn 0 (d.width - 1) d.classes = true
  ns : allIn 0 (d.tag.length - 1) d.next = true
  ts : allIn (-1) 99 d.tag = true
  es : allIn (-1) 99 d.fin = true
theorem dfaB_fine {d : DfaD} (h : dfaB d = true) : DfaFine d := by
  simp only [dfaB, Bool.and_eq_true, decide_eq_true_eq, btw_iff] at h
  obtain ⟨⟨⟨⟨⟨⟨⟨⟨a, b⟩, c⟩, e⟩, f⟩, g⟩, i⟩, j⟩, k⟩ := h
  exact ⟨a, b.1, b.2, c.1, c.2, e, f, g, i, j, k⟩

theorem DfaFine.idx {d : DfaD} (h : DfaFine d) {s : Int} {c : Nat} (h0 : 0 ≤ s) (h1 : s < d.tag.length) (hc : c < 256) :
    0 ≤ clsAt d c ∧ clsAt d c < d.width ∧ 0 ≤ s * d.width ∧ s * d.width ≤ 1024000 ∧ s * d.width + clsAt d c < d.next.length := by
  have k := allIn_at h.cs (k := c) (by have := h.cl; omega)
  have a := h.w1; have b := h.w2; have n := h.nl; have n2 := h.n2
  have m0 : 0 ≤ s * d.width := Int.mul_nonneg h0 (by omega)
  have m1 : s * d.width ≤ 4000 * 256 := Int.mul_le_mul (by omega) b (by omega) (by omega)
  have m2 : (s + 1) * d.width ≤ d.tag.length * d.width := Int.mul_le_mul_of_nonneg_right (by omega) (by omega)
  rw [Int.add_mul] at m2
  unfold clsAt
  exact ⟨k.1, by omega, m0, by omega, by omega⟩
theorem DfaFine.step {d : DfaD} (h : DfaFine d) {s : Int} {c : Nat} (h0 : 0 ≤ s) (h1 : s < d.tag.length) (hc : c < 256) : 0 ≤ stepF d s c ∧ stepF d s c < d.tag.length := by
  obtain ⟨a, b, e, f, g⟩ := h.idx h0 h1 hc
  have k := allIn_at h.ns (k := (s * d.width + clsAt d c).toNat) (by omega)
  unfold stepF nextAt
  omega
theorem DfaFine.run {d : DfaD} (h : DfaFine d) (l : List UInt8) : ∀ {s : Int}, 0 ≤ s → s < d.tag.length → 0 ≤ runF d s l ∧ runF d s l < d.tag.length := by
  induction l with
  | nil => intro s h0 h1; exact ⟨h0, h1⟩
  | cons c l ih => intro s h0 h1; have k := h.step h0 h1 c.toNat_lt; exact ih k.1 k.2
theorem runF_snoc (d : DfaD) (s : Int) (t : ByteArray) (k : Nat) (h : k < t.size) : runF d s (t.data.toList.take (k + 1)) = stepF d (runF d s (t.data.toList.take k)) t[k].toNat := by
  rw [List.take_succ_eq_append_getElem (by simpa using h)]
  simp only [runF, List.foldl_append, List.foldl_cons, List.foldl_nil]
  rfl
theorem runF_all (d : DfaD) (s : Int) (t : ByteArray) (k : Nat) (h : ¬k < t.size) : runF d s (t.data.toList.take k) = runF d s t.data.toList := by
  rw [List.take_of_length_le (by simp; omega)]
end Go.Proofs.Ytgbdlgogccgciaa
