import Derived.Test.YtipndbhedaknnaaDoorGen
import Derived.MapKept
import Derived.RangeFuncRecord
namespace Go.Proofs.YtipndbhedaknnaaDoor
open Go.RowKit

/- A MAP OF FUNCTIONS, keyed by strings, made by the call. -/
theorem set_last (A : World) (o o' : Obj) : { A.alloc o with heap := (A.alloc o).heap.setIfInBounds A.heap.size o' } = A.alloc o' := by
  have e : ∀ o, (A.alloc o).heap = A.heap.push o := fun _ => rfl
  have h : (A.heap.push o).setIfInBounds A.heap.size o' = A.heap.push o' := by
    apply Array.ext_getElem?
    intro i
    by_cases hi : i = A.heap.size
    · subst hi; simp
    · rw [Array.getElem?_setIfInBounds_ne (Ne.symm hi), Array.getElem?_push, Array.getElem?_push, if_neg hi, if_neg hi]
  rw [e, h]
  rfl
theorem map_put {P : Program} {mt kt et : TypeId} (hm : P.underlying mt = some (.map kt et)) (hk : P.underlying kt = some .string) (A : World) (es : Array MapEntry) (clock : Nat) (k : ByteArray) (v : Value)
    (hf : Instr.findNow .string (.string k) es.toList 0 = some none) :
    (Instr.mapUpdate mt (.map (some A.heap.size)) (.string k) v).run P (A.alloc (.map es clock)) = .ok () (A.alloc (.map (es.push { key := .string k, val := v, born := clock }) (clock + 1))) := by
  have hg : (A.alloc (.map es clock)).heap[A.heap.size]? = some (.map es clock) := World.alloc_heap_new A _
  have hs := MapKept.run_setObj_map (P := P) (.map (es.push { key := .string k, val := v, born := clock }) (clock + 1)) hg
  rw [set_last] at hs
  unfold Instr.mapUpdate
  simp only [Sem.run_bind, run_underlying hm, Result.andThen, MapKept.run_getObj_map hg, MapKept.run_checkKey hk (k := .string k) (by simp [MapKept.IsKey]) false 9999, MapKept.run_findKey hk hf, hs]
theorem map_get {P : Program} {mt kt et : TypeId} (hm : P.underlying mt = some (.map kt et)) (hk : P.underlying kt = some .string) (w : World) (r : Nat) (es : Array MapEntry) (clock : Nat) (hg : w.heap[r]? = some (.map es clock)) (k : ByteArray) (i : Nat) (v : Value)
    (hf : Instr.findNow .string (.string k) es.toList 0 = some (some (i, v))) :
    (Instr.lookup mt (.map (some r)) (.string k) true).run P w = .ok (.tuple #[v, .bool true]) w := by
  unfold Instr.lookup
  simp only [Sem.run_bind, run_underlying hm, Result.andThen, MapKept.run_getObj_map hg, Sem.run_pure, MapKept.run_checkKey hk (k := .string k) (by simp [MapKept.IsKey]) _ 9999, MapKept.run_findKey hk hf, if_true]
theorem map_miss {P : Program} {mt kt et : TypeId} (hm : P.underlying mt = some (.map kt et)) (hk : P.underlying kt = some .string) (w : World) (r : Nat) (es : Array MapEntry) (clock : Nat) (hg : w.heap[r]? = some (.map es clock)) (k : ByteArray) (z : Value) (hz : (zeroValue et).run P w = .ok z w)
    (hf : Instr.findNow .string (.string k) es.toList 0 = some none) :
    (Instr.lookup mt (.map (some r)) (.string k) true).run P w = .ok (.tuple #[z, .bool false]) w := by
  unfold Instr.lookup
  simp only [Sem.run_bind, run_underlying hm, Result.andThen, MapKept.run_getObj_map hg, Sem.run_pure, MapKept.run_checkKey hk (k := .string k) (by simp [MapKept.IsKey]) _ 9999, MapKept.run_findKey hk hf, hz, if_true]
/-- The place of a key among entries. -/
theorem find_nil (k : ByteArray) (i : Nat) : Instr.findNow .string (.string k) [] i = some none := rfl
theorem find_hit (k : ByteArray) (v : Value) (b : Nat) (es : List MapEntry) (i : Nat) : Instr.findNow .string (.string k) ({ key := .string k, val := v, born := b } :: es) i = some (some (i, v)) := by
  have : (k == k) = true := (MapKept.bytes_beq _ _).2 rfl
  simp [Instr.findNow, Instr.sameNow, this]
theorem find_next (k q : ByteArray) (v : Value) (b : Nat) (es : List MapEntry) (i : Nat) (h : ¬k = q) : Instr.findNow .string (.string k) ({ key := .string q, val := v, born := b } :: es) i = Instr.findNow .string (.string k) es (i + 1) := by
  have : (k == q) = false := by
    cases hb : (k == q)
    · rfl
    · exact absurd ((MapKept.bytes_beq _ _).1 hb) h
  simp [Instr.findNow, Instr.sameNow, this]
end Go.Proofs.YtipndbhedaknnaaDoor
