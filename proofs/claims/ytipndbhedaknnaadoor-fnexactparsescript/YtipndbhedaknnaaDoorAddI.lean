import Derived.Test.YtipndbhedaknnaaDoorFldI
import Derived.Test.YtipndbhedaknnaaDoorScrL
namespace Go.Proofs.YtipndbhedaknnaaDoor
open Go.RowKit
attribute [local go_sem ↓] Go.wp_at_zero Go.wp_at_succ

/- THE SCRIPT's READER, behind a pointer. -/
/-- All but block a, the row o and block b lies as it lay. -/
structure Only (a : Nat) (o : Option Nat) (b : Nat) (w w' : World) : Prop where
  os : w'.os = w.os
  tape : w'.tape = w.tape
  output : w'.output = w.output
  size : w.heap.size ≤ w'.heap.size
  block : ∀ k, k < w.heap.size → k ≠ a → some k ≠ o → k ≠ b → w'.heap[k]? = w.heap[k]?
theorem Only.refl (a : Nat) (o : Option Nat) (b : Nat) (w : World) : Only a o b w w := ⟨rfl, rfl, rfl, Nat.le_refl _, fun _ _ _ _ _ => rfl⟩
theorem Only.trans {a b : Nat} {o : Option Nat} {x y z : World} (h : Only a o b x y) (k : Only a o b y z) : Only a o b x z :=
  ⟨k.os.trans h.os, k.tape.trans h.tape, k.output.trans h.output, Nat.le_trans h.size k.size, fun i hi h1 h2 h3 => (k.block i (Nat.lt_of_lt_of_le hi h.size) h1 h2 h3).trans (h.block i hi h1 h2 h3)⟩
theorem Only.of_b {a b : Nat} {o : Option Nat} {x y : World} (h : x.grownBy y (some b)) : Only a o b x y := ⟨h.os, h.tape, h.output, h.size, fun k hk _ _ h3 => h.block k hk (by simpa using h3)⟩
theorem Only.of_o {a b : Nat} {o : Option Nat} {x y : World} (h : x.grownBy y o) : Only a o b x y := ⟨h.os, h.tape, h.output, h.size, fun k hk _ h2 _ => h.block k hk h2⟩
theorem Only.of_a {a b : Nat} {o : Option Nat} {x y : World} (h : x.grownBy y (some a)) : Only a o b x y := ⟨h.os, h.tape, h.output, h.size, fun k hk h1 _ _ => h.block k hk (by simpa using h1)⟩
/-- The reader holds these events. -/
def RdAt (base br : Nat) (w : World) (vv : Value) (evs : List (Int × List UInt8)) : Prop := Boxed w br 63 vv ∧ w.ownsRow base 58 2 vv evs.length (evCells evs)
/-- What adding a line's event leaves. -/
def AddTo (base br b : Nat) (w : World) (vv : Value) (evs : List (Int × List UInt8)) (e : Ending) (code : Int) (w' : World) : Prop := e = .returned (.int .i64 code) ∧ Only br vv.ownBlock b w w' ∧ ∃ vv', RdAt base br w' vv' evs

/-- The append of events as one word (so that the walk takes its law). -/
def appE (ats : Array TypeId) (ty : TypeId) (args : Array Value) : Sem Value := Builtin.append_ ats ty args
theorem append_appE (ty : TypeId) (args : Array Value) : Builtin.append_ #[30, 30] ty args = appE #[30, 30] ty args := rfl
attribute [local go_sem ↓] append_appE

theorem row_form {w : World} {base n : Nat} {e : TypeId} {sz : Nat} {v : Value} {xs : List Value} (h : w.ownsRow base e sz v n xs) : ∃ a c, v = .slice a n c := by
  rcases h.2 with ⟨rfl, rfl⟩ | ⟨g, cap, _, rfl, _⟩
  · exact ⟨none, 0, rfl⟩
  · exact ⟨_, _, rfl⟩
theorem FldAt.alloc {w : World} {b : Nat} {ls : List (List UInt8)} {bad : Bool} {g o cap : Nat} (h : FldAt w b ls bad g o cap) (ob : Obj) : FldAt (w.alloc ob) b ls bad g o cap := h.grown ((Below.refl _ w).alloc (Nat.le_refl _) _) h.glt
theorem Only.alloc {a b : Nat} {o : Option Nat} (w : World) (ob : Obj) : Only a o b w (w.alloc ob) := Only.of_o (World.grownBy_alloc w ob o)
set_option maxRecDepth 100000 in
set_option maxHeartbeats 1000000 in
theorem add_bad (base br b : Nat) (vv : Value) (evs : List (Int × List UInt8)) (ls : List (List UInt8)) (bad : Bool) (g o cap : Nat) (k : Int) (d : List UInt8) (w : World) (h : RdAt base br w vv evs) (hf : FldAt w b ls bad g o cap) (hr : (!bad && decide (ls.length = 0)) = false) :
    Calls Tryd.prog 47 #[.pointer (some ⟨br, 0, none⟩), .pointer (some ⟨b, 0, none⟩), .agg #[.int .i64 k, strV d]] w fun e w' => AddTo base br b w vv evs e 2 w' := by
  unfold strV
  have hag := allGood_ok b ls bad g o cap (w.alloc (.cells #[.int .i64 k, .string ⟨d.toArray⟩] 58)) (hf.alloc _) _ hr
  go_enter Tryd.func47, Tryd.ntmps47
  go_wp2_with (go_at_call 36; refine hag.mono ?_; rintro e w' ⟨rfl, rfl⟩)
  go_ret
  exact ⟨rfl, Only.alloc _ _, vv, h.1.alloc _, h.2.alloc _⟩
set_option maxRecDepth 100000 in
set_option maxHeartbeats 1000000 in
theorem add_full (base br b : Nat) (vv : Value) (evs : List (Int × List UInt8)) (ls : List (List UInt8)) (bad : Bool) (g o cap : Nat) (k : Int) (d : List UInt8) (w : World) (h : RdAt base br w vv evs) (hf : FldAt w b ls bad g o cap) (hr : (!bad && decide (ls.length = 0)) = true) (hn : evs.length = 4000) :
    Calls Tryd.prog 47 #[.pointer (some ⟨br, 0, none⟩), .pointer (some ⟨b, 0, none⟩), .agg #[.int .i64 k, strV d]] w fun e w' => AddTo base br b w vv evs e 3 w' := by
  unfold strV
  have hag := allGood_ok b ls bad g o cap (w.alloc (.cells #[.int .i64 k, .string ⟨d.toArray⟩] 58)) (hf.alloc _) _ hr
  obtain ⟨ad, cv, hv⟩ := row_form h.2
  have c0 := (h.1.alloc (.cells #[.int .i64 k, .string ⟨d.toArray⟩] 58)).cell
  rw [hv, hn] at c0
  go_enter Tryd.func47, Tryd.ntmps47
  go_wp2_with (go_at_call 36; refine hag.mono ?_; rintro e w' ⟨rfl, rfl⟩)
  go_ret
  exact ⟨rfl, Only.alloc _ _, vv, h.1.alloc _, h.2.alloc _⟩
set_option maxRecDepth 100000 in
set_option maxHeartbeats 2000000 in
theorem add_good (base br b : Nat) (vv : Value) (evs : List (Int × List UInt8)) (ls : List (List UInt8)) (bad : Bool) (g o cap : Nat) (k : Int) (d : List UInt8) (w : World) (h : RdAt base br w vv evs) (hf : FldAt w b ls bad g o cap) (hr : (!bad && decide (ls.length = 0)) = true) (hn : evs.length < 4000) (hbase : base ≤ w.heap.size) :
    Calls Tryd.prog 47 #[.pointer (some ⟨br, 0, none⟩), .pointer (some ⟨b, 0, none⟩), .agg #[.int .i64 k, strV d]] w fun e w' => AddTo base br b w vv (evs ++ [(k, d)]) e 0 w' := by
  unfold strV
  obtain ⟨i0, hi, hz0, hz1, hz2⟩ := info_parts Tryd.infoEv
  have hag := allGood_ok b ls bad g o cap (w.alloc (.cells #[.int .i64 k, .string ⟨d.toArray⟩] 58)) (hf.alloc _) _ hr
  obtain ⟨ad, cv, hv⟩ := row_form h.2
  subst hv
  have hne : ((evs.length : Int) == 4000) = false := by simp; omega
  have c0 : ∀ ob, (w.alloc ob).cell? ⟨br, 0, none⟩ = some (.slice ad evs.length cv) := fun ob => (h.1.alloc ob).cell
  have c1 : ∀ ob ob2, ((w.alloc ob).alloc ob2).cell? ⟨br, 0, none⟩ = some (.slice ad evs.length cv) := fun ob ob2 => ((h.1.alloc ob).alloc ob2).cell
  go_enter Tryd.func47, Tryd.ntmps47
  go_wp2_with (go_at_call 36; refine hag.mono ?_; rintro e w' ⟨rfl, rfl⟩)
  obtain ⟨v', w1, hap, hown', hgrow, hnil⟩ := run_append_own (P := Tryd.prog) (((w.alloc (.cells #[.int .i64 k, .string ⟨d.toArray⟩] 58)).alloc (.cells #[.int .i64 k, .string ⟨d.toArray⟩] 58)).drew) base 30 30 58 i0 _ 2 24 Tryd.underlying30 hi hz0 hz1 hz2 rfl (by decide) (.slice ad evs.length cv) evs.length (evCells evs) ((h.2.alloc _).alloc _) ⟨w.heap.size + 1, 0, none⟩ 1 1 [.int .i64 k, .string ⟨d.toArray⟩] rfl (fun j u hj => by
      match j, hj with
      | 0, hj => simp at hj; subst hj; simp [Addr.add]
      | 1, hj => simp at hj; subst hj; simp [Addr.add]) (by intro u hu; simp at hu; rcases hu with rfl | rfl <;> rfl) (by unfold maxLen; omega) (by omega) (by show _ ≤ ((w.alloc _).alloc _).heap.size; simp; omega)
  rw [show Builtin.append_ #[30, 30] 30 #[.slice ad evs.length cv, .slice (some ⟨w.heap.size + 1, 0, none⟩) 1 1] = appE #[30, 30] 30 #[.slice ad evs.length cv, .slice (some ⟨w.heap.size + 1, 0, none⟩) 1 1] from rfl] at hap
  obtain ⟨g', cap', rfl⟩ := ownsRow_succ hown'
  have hB1 : Boxed w1 br 63 (.slice ad evs.length cv) := Boxed.kept (W := ((w.alloc _).alloc _).drew) ((h.1.alloc _).alloc _) hgrow (h.1.not_row (by decide) h.2)
  have c2 := hB1.cell
  have f2 := hB1.frozen
  clear hnil
  go_region
  go_wp2
  go_ret
  refine ⟨rfl, ?_, _, hB1.set _, ?_⟩
  · refine ((Only.alloc w (.cells #[.int .i64 k, .string ⟨d.toArray⟩] 58)).trans (Only.alloc _ (.cells #[.int .i64 k, .string ⟨d.toArray⟩] 58))).trans (Only.trans (y := w1) ?_ (Only.of_a (grownBy_setCell' w1 br _)))
    exact ⟨hgrow.os, hgrow.tape, hgrow.output, hgrow.size, fun q hq _ h2 _ => hgrow.block q hq h2⟩
  · have hr := World.ownsRow.kept hown' (grownBy_setCell' w1 br (.slice (some ⟨g', 0, none⟩) (evs.length + 1) cap')) (.inr (hB1.not_row (by decide) hown').symm)
    rw [List.length_append, evCells_app]
    exact hr
end Go.Proofs.YtipndbhedaknnaaDoor
