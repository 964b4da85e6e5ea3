import Derived.Test.YtplhghhfdabccaaRdT
import Derived.Defers
import Derived.Recover
namespace Go.Proofs.Ytplhghhfdabccaa
open Go.RowKit
attribute [local go_sem ↓] Go.wp_at_zero Go.wp_at_succ

theorem assert_yes (c : Int) (w : World) : Sem.run Try.prog (Instr.typeAssert (.iface 114 (.int .i64 c)) 20 114 true) w = .ok (.tuple #[.int .i64 c, .bool true]) w := by kernel_rfl
theorem assert_nil (w : World) : Sem.run Try.prog (Instr.typeAssert .nilIface 20 114 true) w = .ok (.tuple #[.int .i64 0, .bool false]) w := by kernel_rfl
/- THE FACE OF THE LOADER: a deferred function that recovers. -/
set_option maxRecDepth 100000 in
set_option maxHeartbeats 1000000 in
theorem catch_panicking (w : World) (bt bc : Nat) (c : Int) (_hne : bt ≠ bc) (ht : w.heap[bt]? = some (.cells zeroA 48 (0, 0))) (hc : w.heap[bc]? = some (.cells #[.int .i64 0] 3 (0, 0))) :
    CallsD Try.prog 80 #[.pointer (some ⟨bt, 0, none⟩), .pointer (some ⟨bc, 0, none⟩)] (.panicking (refusal c)) w fun e u' w' =>
      e = .returned (.tuple #[]) ∧ u' = .panicking [{ v := .iface 114 (.int .i64 c), recovered := true }] ∧ w' = (set8 w bt (.slice none 0 0) (.int .i64 0) (.slice none 0 0) (.slice none 0 0) (.slice none 0 0) (.slice none 0 0) (.slice none 0 0) (.slice none 0 0)).setCell ⟨bc, 0, none⟩ (.int .i64 c) := by
  have ht' := ht
  unfold zeroA at ht'
  obtain ⟨y0, y1, y2, y3, y4, y5, y6, y7⟩ := row_eight ht'
  have fr : ∀ o, w.frozen? ⟨bt, o, none⟩ = false := fun _ => frozen_of_row _ _ _ _ _ ht
  have z0 : w.cell? ⟨bc, 0, none⟩ = some (.int .i64 0) := row_cells hc 0
  have fc : w.frozen? ⟨bc, 0, none⟩ = false := frozen_of_row _ _ _ _ _ hc
  refine callsD_of_wpS Try.func80 rfl fun c₀ cs hu => ?_
  apply wpS_seq
  apply wpS_region
  simp [wpOpsS, go_sem, recoverD, hu, Try.ntmps80, Exit.thenS, refusal, assert_yes]
  apply wpS_seq
  apply wpS_region
  simp [wpOpsS, go_sem, Exit.thenS]
  refine wpS_cond (t := true) (by simp [Act.eval, Array.replicate]) ?_
  simp only [if_true]
  apply wpS_region
  simp [wpOpsS, go_sem, y0, y1, y2, y3, y4, y5, y6, y7, fr, z0, fc, bodyPostS, results, Try.results80]
  rfl

set_option maxRecDepth 100000 in
set_option maxHeartbeats 1000000 in
theorem catch_idle (w : World) (bt bc : Nat) :
    CallsD Try.prog 80 #[.pointer (some ⟨bt, 0, none⟩), .pointer (some ⟨bc, 0, none⟩)] .returning w fun e u' w' => e = .returned (.tuple #[]) ∧ u' = .returning ∧ w' = w := by
  refine callsD_of_wpS Try.func80 rfl fun c₀ cs hu => ?_
  apply wpS_seq
  apply wpS_region
  simp [wpOpsS, go_sem, recoverD, hu, Try.ntmps80, Exit.thenS, assert_nil]
  apply wpS_seq
  apply wpS_region
  simp [wpOpsS, go_sem, Exit.thenS]
  refine wpS_cond (t := false) (by simp [Act.eval, Array.replicate]) ?_
  simp only [Bool.false_eq_true, if_false]
  refine wpS_of_wp (wp_skip ?_)
  cases c₀
  simp_all [bodyPostS, results, Try.results80]
set_option maxHeartbeats 400000 in
theorem imageSize_zero (w : World) : Calls Try.prog 74 #[.int .i64 0, .int .i64 0] w fun e w' => e = .returned (.int .i64 268) ∧ w' = w := by
  go_enter Try.func74, Try.ntmps74
  go_wp2
  go_ret
  exact ⟨rfl, rfl⟩

theorem set8_zero {W : World} {bt : Nat} (ht : W.heap[bt]? = some (.cells zeroA 48 (0, 0))) : (set8 W bt (.slice none 0 0) (.int .i64 0) (.slice none 0 0) (.slice none 0 0) (.slice none 0 0) (.slice none 0 0) (.slice none 0 0) (.slice none 0 0)).heap[bt]? = some (.cells zeroA 48 (0, 0)) := by
  have h0 := heap_setCell_same _ bt 0 _ _ (.slice none 0 0) ht
  have h1 := heap_setCell_same _ bt 1 _ _ (.int .i64 0) h0
  have h2 := heap_setCell_same _ bt 2 _ _ (.slice none 0 0) h1
  have h3 := heap_setCell_same _ bt 3 _ _ (.slice none 0 0) h2
  have h4 := heap_setCell_same _ bt 4 _ _ (.slice none 0 0) h3
  have h5 := heap_setCell_same _ bt 5 _ _ (.slice none 0 0) h4
  have h6 := heap_setCell_same _ bt 6 _ _ (.slice none 0 0) h5
  have h7 := heap_setCell_same _ bt 7 _ _ (.slice none 0 0) h6
  exact h7
theorem set8_other {W : World} {bt k : Nat} (h : k ≠ bt) (u0 u1 u2 u3 u4 u5 u6 u7 : Value) : (set8 W bt u0 u1 u2 u3 u4 u5 u6 u7).heap[k]? = W.heap[k]? := by
  unfold set8
  rw [heap_setCell_other _ _ _ _ h, heap_setCell_other _ _ _ _ h, heap_setCell_other _ _ _ _ h, heap_setCell_other _ _ _ _ h, heap_setCell_other _ _ _ _ h, heap_setCell_other _ _ _ _ h, heap_setCell_other _ _ _ _ h, heap_setCell_other _ _ _ _ h]
theorem set8_row {W : World} {bt : Nat} (ht : W.heap[bt]? = some (.cells zeroA 48 (0, 0))) (u0 u1 u2 u3 u4 u5 u6 u7 : Value) : (set8 W bt u0 u1 u2 u3 u4 u5 u6 u7).heap[bt]? = some (.cells #[u0, u1, u2, u3, u4, u5, u6, u7] 48 (0, 0)) := by
  have h0 := heap_setCell_same _ bt 0 _ _ u0 ht
  have h1 := heap_setCell_same _ bt 1 _ _ u1 h0
  have h2 := heap_setCell_same _ bt 2 _ _ u2 h1
  have h3 := heap_setCell_same _ bt 3 _ _ u3 h2
  have h4 := heap_setCell_same _ bt 4 _ _ u4 h3
  have h5 := heap_setCell_same _ bt 5 _ _ u5 h4
  have h6 := heap_setCell_same _ bt 6 _ _ u6 h5
  have h7 := heap_setCell_same _ bt 7 _ _ u7 h6
  have e : ((((((((zeroA.setIfInBounds 0 u0).setIfInBounds 1 u1).setIfInBounds 2 u2).setIfInBounds 3 u3).setIfInBounds 4 u4).setIfInBounds 5 u5).setIfInBounds 6 u6).setIfInBounds 7 u7) = #[u0, u1, u2, u3, u4, u5, u6, u7] := by apply Array.ext'; simp [zeroA]
  rw [e] at h7
  unfold set8
  exact h7
/-- The two results laid. -/
theorem laid_good {w W W' : World} {gt : Nat} {v : Nat → Value} {l : Nat → List Int} (hb : Below w.heap.size w W) (ht : W.heap[w.heap.size]? = some (.cells zeroA 48 (0, 0))) (hc : W.heap[w.heap.size + 1]? = some (.cells #[.int .i64 0] 3 (0, 0))) (hgt : w.heap.size + 1 ≤ gt) (fam : Fam gt 7 W v l) (u0 u1 u2 u3 u4 u5 u6 u7 : Value)
    (hW : W' = (set8 W w.heap.size u0 u1 u2 u3 u4 u5 u6 u7).setCell ⟨w.heap.size + 1, 0, none⟩ (.int .i64 0)) :
    W'.heap[w.heap.size]? = some (.cells #[u0, u1, u2, u3, u4, u5, u6, u7] 48 (0, 0)) ∧ W'.heap[w.heap.size + 1]? = some (.cells #[.int .i64 0] 3 (0, 0)) ∧ Below w.heap.size w W' ∧ Fam gt 7 W' v l := by
  subst hW
  refine ⟨?_, ?_, ?_, ?_⟩
  · rw [heap_setCell_other _ _ _ _ (by simp)]
    exact set8_row ht _ _ _ _ _ _ _ _
  · have h1 : (set8 W w.heap.size u0 u1 u2 u3 u4 u5 u6 u7).heap[w.heap.size + 1]? = some (.cells #[.int .i64 0] 3 (0, 0)) := (set8_other (by omega) _ _ _ _ _ _ _ _).trans hc
    have h2 := heap_setCell_same _ (w.heap.size + 1) 0 _ _ (.int .i64 0) h1
    exact h2
  · exact (below_set8 hb (Nat.le_refl _) _ _ _ _ _ _ _ _).setCell (by simp) _
  · exact (Fam.set8 fam (by omega) _ _ _ _ _ _ _ _).setLow hgt _ _
/-- What the deferred function leaves of a panic. -/
theorem catch_bad {w W : World} (hb : Below w.heap.size w W) (c : Int) (ht : W.heap[w.heap.size]? = some (.cells zeroA 48 (0, 0))) (hc : W.heap[w.heap.size + 1]? = some (.cells #[.int .i64 0] 3 (0, 0))) :
    CallsD Try.prog 80 #[.pointer (some ⟨w.heap.size, 0, none⟩), .pointer (some ⟨w.heap.size + 1, 0, none⟩)] (.panicking (refusal c)) W fun e u' w' =>
      e = .returned (.tuple #[]) ∧ u' = .panicking [{ v := .iface 114 (.int .i64 c), recovered := true }] ∧ (w'.heap[w.heap.size]? = some (.cells zeroA 48 (0, 0)) ∧ w'.heap[w.heap.size + 1]? = some (.cells #[.int .i64 c] 3 (0, 0)) ∧ Below w.heap.size w w') := by
  refine (catch_panicking W w.heap.size (w.heap.size + 1) c (by omega) ht hc).mono ?_
  rintro e u' w' ⟨rfl, rfl, rfl⟩
  refine ⟨rfl, rfl, ?_, ?_, ?_⟩
  · rw [heap_setCell_other _ _ _ _ (by simp)]
    exact set8_zero ht
  · have h1 : (set8 W w.heap.size (.slice none 0 0) (.int .i64 0) (.slice none 0 0) (.slice none 0 0) (.slice none 0 0) (.slice none 0 0) (.slice none 0 0) (.slice none 0 0)).heap[w.heap.size + 1]? = some (.cells #[.int .i64 0] 3 (0, 0)) := (set8_other (by omega) _ _ _ _ _ _ _ _).trans hc
    have h2 := heap_setCell_same _ (w.heap.size + 1) 0 _ _ (.int .i64 c) h1
    exact h2
  · exact (below_set8 hb (Nat.le_refl _) _ _ _ _ _ _ _ _).setCell (by simp) _

set_option maxRecDepth 100000 in
set_option maxHeartbeats 2000000 in
theorem implLoad_short (s : ByteArray) (w : World) (h : (s.size : Int) < 268) :
    Calls Try.prog 36 #[.string s] w fun e w' => LoadAns w 0 1 (fun _ => []) e w' := by
  have hmf : ∀ (fn : Fn) (first cap : Array Value) (w : World), (Instr.makeFunc fn first cap).run Try.prog w = .ok (.func fn first cap) w := fun _ _ _ _ => rfl
  have r0 : ((w.alloc (.cells zeroA 48)).alloc (.cells #[.int .i64 0] 3)).heap[w.heap.size]? = some (.cells zeroA 48 (0, 0)) := row_alloc (heap_alloc_new _ _)
  have r1 : ((w.alloc (.cells zeroA 48)).alloc (.cells #[.int .i64 0] 3)).heap[w.heap.size + 1]? = some (.cells #[.int .i64 0] 3 (0, 0)) := by
    have := heap_alloc_new (w.alloc (.cells zeroA 48)) (.cells #[.int .i64 0] 3)
    simpa using this
  have hb : Below w.heap.size w ((w.alloc (.cells zeroA 48)).alloc (.cells #[.int .i64 0] 3)) := ((Below.refl _ _).alloc (Nat.le_refl _) _).alloc (by simp) _
  go_enter_defers Try.func36, Try.ntmps36
  go_wp2_with fail
  refine (imageSize_zero _).mono ?_
  rintro e w1 ⟨rfl, rfl⟩
  go_wp2_with fail
  refine (must_no 1 _ _ (by first | rfl | (simp; omega))).mono ?_
  rintro e w2 ⟨rfl, rfl⟩
  refine leaves_cons (f := 80) (args := #[.pointer (some ⟨w.heap.size, 0, none⟩), .pointer (some ⟨w.heap.size + 1, 0, none⟩)]) (by simp) (by simp [go_sem]) ?_
  refine (catch_bad hb 1 r0 r1).mono ?_
  rintro e u' w'' ⟨rfl, rfl, t2, k2, b2⟩
  clear r0 r1 hb
  unfold zeroA at t2
  obtain ⟨y0, y1, y2, y3, y4, y5, y6, y7⟩ := row_eight t2
  have z0 : w''.cell? ⟨w.heap.size + 1, 0, none⟩ = some (.int .i64 1) := row_cells k2 0
  simp [Leaves, settle, results, Try.results36, go_sem, y0, y1, y2, y3, y4, y5, y6, y7, z0]
  exact ⟨w.heap.size, fun _ => .slice none 0 0, rfl, Nat.le_refl _, Fam.nil _ _ _, b2⟩
/-- A new reader over the bytes of an image. -/
theorem Rd.new (w : World) (s : ByteArray) : Rd (Array.replicate (grownCap w s.size 0 5 - s.size) (.int .u8 0)) ((Go.Lib.bytesCells w 5 s).size, (Go.Lib.bytesCells w 5 s).size + 1) (w.heap.size + 1) w.heap.size (grownCap w s.size 0 5) s 0
    ((Go.Lib.bytesWorld w 5 s).alloc (.cells #[.slice (some ⟨w.heap.size, 0, none⟩) s.size (grownCap w s.size 0 5), .int .i64 0, .int .u16 0] 117)) := by
  have hsz : (Go.Lib.bytesWorld w 5 s).heap.size = w.heap.size + 1 := Go.Lib.bytesWorld_size _ _ _
  refine ⟨by omega, ?_, ?_⟩
  · have h := heap_alloc_new (Go.Lib.bytesWorld w 5 s) (.cells #[.slice (some ⟨w.heap.size, 0, none⟩) s.size (grownCap w s.size 0 5), .int .i64 0, .int .u16 0] 117)
    rw [hsz] at h
    have e : s.data.toList.length = s.size := by simp
    rw [e]
    exact h
  · rw [Below.heap_alloc _ _ _ (by omega), Go.Lib.bytesWorld_at_new]
    congr 2
    unfold Go.Lib.bytesCells
    congr 1
    apply Array.ext'
    simp [byteV]

set_option maxRecDepth 100000 in
set_option maxHeartbeats 2000000 in
theorem implLoad_long (s : ByteArray) (w : World) (hs : s.size ≤ 1048576) (h268 : ¬(s.size : Int) < 268) :
    Calls Try.prog 36 #[.string s] w fun e w' => LoadAns w (loadW s) (loadC s) (loadL s) e w' := by
  have hmf : ∀ (fn : Fn) (first cap : Array Value) (w : World), (Instr.makeFunc fn first cap).run Try.prog w = .ok (.func fn first cap) w := fun _ _ _ _ => rfl
  have r0 : ((w.alloc (.cells zeroA 48)).alloc (.cells #[.int .i64 0] 3)).heap[w.heap.size]? = some (.cells zeroA 48 (0, 0)) := row_alloc (heap_alloc_new _ _)
  have r1 : ((w.alloc (.cells zeroA 48)).alloc (.cells #[.int .i64 0] 3)).heap[w.heap.size + 1]? = some (.cells #[.int .i64 0] 3 (0, 0)) := by
    have := heap_alloc_new (w.alloc (.cells zeroA 48)) (.cells #[.int .i64 0] 3)
    simpa using this
  have hb : Below w.heap.size w ((w.alloc (.cells zeroA 48)).alloc (.cells #[.int .i64 0] 3)) := ((Below.refl _ _).alloc (Nat.le_refl _) _).alloc (by simp) _
  have hsz : ((w.alloc (.cells zeroA 48)).alloc (.cells #[.int .i64 0] 3)).heap.size = w.heap.size + 2 := by simp
  have HR := Rd.new ((w.alloc (.cells zeroA 48)).alloc (.cells #[.int .i64 0] 3)) s
  have hbw := bytesWorld_below ((w.alloc (.cells zeroA 48)).alloc (.cells #[.int .i64 0] 3)) 5 s
  have hbs : (Go.Lib.bytesWorld ((w.alloc (.cells zeroA 48)).alloc (.cells #[.int .i64 0] 3)) 5 s).heap.size = w.heap.size + 3 := by rw [Go.Lib.bytesWorld_size, hsz]
  rw [hsz] at HR
  have t5 := row_below r0 hbw
  have k5 := row_below r1 hbw
  have b5 := below_step hb hb.size hbw
  clear r0 r1 hb hbw
  go_enter_defers Try.func36, Try.ntmps36
  go_wp2_with fail
  refine (imageSize_zero _).mono ?_
  rintro e w1 ⟨rfl, rfl⟩
  go_wp2_with fail
  refine (must_yes 1 _ _ (by first | rfl | (simp; omega))).mono ?_
  rintro e w2 ⟨rfl, rfl⟩
  go_wp2_with fail
  rw [Go.Lib.run_convert_string_bytes _ _ _ _ _ Try.underlying9 Try.underlying104 Try.underlying5]
  have HR' : Rd (Array.replicate (grownCap ((w.alloc (.cells #[.slice none 0 0, .int .i64 0, .slice none 0 0, .slice none 0 0, .slice none 0 0, .slice none 0 0, .slice none 0 0, .slice none 0 0] 48)).alloc (.cells #[.int .i64 0] 3)) s.size 0 5 - s.size) (.int .u8 0)) ((Go.Lib.bytesCells ((w.alloc (.cells #[.slice none 0 0, .int .i64 0, .slice none 0 0, .slice none 0 0, .slice none 0 0, .slice none 0 0, .slice none 0 0, .slice none 0 0] 48)).alloc (.cells #[.int .i64 0] 3)) 5 s).size, (Go.Lib.bytesCells ((w.alloc (.cells #[.slice none 0 0, .int .i64 0, .slice none 0 0, .slice none 0 0, .slice none 0 0, .slice none 0 0, .slice none 0 0, .slice none 0 0] 48)).alloc (.cells #[.int .i64 0] 3)) 5 s).size + 1) (w.heap.size + 2 + 1) (w.heap.size + 2) (grownCap ((w.alloc (.cells #[.slice none 0 0, .int .i64 0, .slice none 0 0, .slice none 0 0, .slice none 0 0, .slice none 0 0, .slice none 0 0, .slice none 0 0] 48)).alloc (.cells #[.int .i64 0] 3)) s.size 0 5) s 0
      ((Go.Lib.bytesWorld ((w.alloc (.cells #[.slice none 0 0, .int .i64 0, .slice none 0 0, .slice none 0 0, .slice none 0 0, .slice none 0 0, .slice none 0 0, .slice none 0 0] 48)).alloc (.cells #[.int .i64 0] 3)) 5 s).alloc (.cells #[.slice (some ⟨w.heap.size + 2, 0, none⟩) s.size (grownCap ((w.alloc (.cells #[.slice none 0 0, .int .i64 0, .slice none 0 0, .slice none 0 0, .slice none 0 0, .slice none 0 0, .slice none 0 0, .slice none 0 0] 48)).alloc (.cells #[.int .i64 0] 3)) s.size 0 5), .int .i64 0, .int .u16 0] 117)) := HR
  have t5' : (Go.Lib.bytesWorld ((w.alloc (.cells #[.slice none 0 0, .int .i64 0, .slice none 0 0, .slice none 0 0, .slice none 0 0, .slice none 0 0, .slice none 0 0, .slice none 0 0] 48)).alloc (.cells #[.int .i64 0] 3)) 5 s).heap[w.heap.size]? = some (.cells zeroA 48 (0, 0)) := t5
  have k5' : (Go.Lib.bytesWorld ((w.alloc (.cells #[.slice none 0 0, .int .i64 0, .slice none 0 0, .slice none 0 0, .slice none 0 0, .slice none 0 0, .slice none 0 0, .slice none 0 0] 48)).alloc (.cells #[.int .i64 0] 3)) 5 s).heap[w.heap.size + 1]? = some (.cells #[.int .i64 0] 3 (0, 0)) := k5
  have b5' : Below w.heap.size w (Go.Lib.bytesWorld ((w.alloc (.cells #[.slice none 0 0, .int .i64 0, .slice none 0 0, .slice none 0 0, .slice none 0 0, .slice none 0 0, .slice none 0 0, .slice none 0 0] 48)).alloc (.cells #[.int .i64 0] 3)) 5 s) := b5
  have hbs' : (Go.Lib.bytesWorld ((w.alloc (.cells #[.slice none 0 0, .int .i64 0, .slice none 0 0, .slice none 0 0, .slice none 0 0, .slice none 0 0, .slice none 0 0, .slice none 0 0] 48)).alloc (.cells #[.int .i64 0] 3)) 5 s).heap.size = w.heap.size + 3 := hbs
  clear HR t5 k5 b5 hbs hsz
  generalize Go.Lib.bytesWorld ((w.alloc (.cells #[.slice none 0 0, .int .i64 0, .slice none 0 0, .slice none 0 0, .slice none 0 0, .slice none 0 0, .slice none 0 0, .slice none 0 0] 48)).alloc (.cells #[.int .i64 0] 3)) 5 s = w5 at *
  generalize (Go.Lib.bytesCells ((w.alloc (.cells #[.slice none 0 0, .int .i64 0, .slice none 0 0, .slice none 0 0, .slice none 0 0, .slice none 0 0, .slice none 0 0, .slice none 0 0] 48)).alloc (.cells #[.int .i64 0] 3)) 5 s).size = mk at *
  generalize grownCap ((w.alloc (.cells #[.slice none 0 0, .int .i64 0, .slice none 0 0, .slice none 0 0, .slice none 0 0, .slice none 0 0, .slice none 0 0, .slice none 0 0] 48)).alloc (.cells #[.int .i64 0] 3)) s.size 0 5 = cp at *
  have t6 : (w5.alloc (.cells #[.slice (some ⟨w.heap.size + 2, 0, none⟩) s.size cp, .int .i64 0, .int .u16 0] 117)).heap[w.heap.size]? = some (.cells zeroA 48 (0, 0)) := row_alloc t5'
  have k6 : (w5.alloc (.cells #[.slice (some ⟨w.heap.size + 2, 0, none⟩) s.size cp, .int .i64 0, .int .u16 0] 117)).heap[w.heap.size + 1]? = some (.cells #[.int .i64 0] 3 (0, 0)) := row_alloc k5'
  have b6 : Below w.heap.size w (w5.alloc (.cells #[.slice (some ⟨w.heap.size + 2, 0, none⟩) s.size cp, .int .i64 0, .int .u16 0] 117)) := b5'.alloc b5'.size _
  have hs6 : (w5.alloc (.cells #[.slice (some ⟨w.heap.size + 2, 0, none⟩) s.size cp, .int .i64 0, .int .u16 0] 117)).heap.size = w.heap.size + 4 := by simp [hbs']
  have cT := table_ok (w.heap.size + 2 + 1) (w.heap.size + 2) cp s _ HR' hs (by omega)
  clear t5' k5' b5' HR'
  go_wp2_with fail
  refine cT.mono ?_
  rintro e w6 ⟨K6, h6⟩
  clear cT
  have t7 := K6.row t6 (show ¬_ = _ by omega)
  have k7 := K6.row k6 (show ¬_ = _ by omega)
  have b7 := b6.trans (K6.below b6.size (fun _ hk => by rw [hk]; omega))
  rcases h6 with ⟨hC0, gt, v, rfl, hgt, fam⟩ | ⟨hC, rfl⟩
  · have HC0 : Hid (loadC s = 0) := hC0
    rw [hs6] at hgt
    clear hC0 t6 k6 b6 hs6 hbs' K6
    have o : ∀ i, i < 7 → ∃ ao cap, v i = .slice ao (loadL s i).length cap := fun i hi => by
      have h := fam.own i hi
      rcases h.2 with ⟨h1, h2⟩ | ⟨g, cap, cur, h1, _⟩
      · refine ⟨none, 0, ?_⟩
        rw [h1, h2]
      · exact ⟨_, _, h1⟩
    obtain ⟨b0, p0, e0⟩ := o 0 (by omega)
    obtain ⟨b1, p1, e1⟩ := o 1 (by omega)
    obtain ⟨b2, p2, e2⟩ := o 2 (by omega)
    obtain ⟨b3, p3, e3⟩ := o 3 (by omega)
    obtain ⟨b4, p4, e4⟩ := o 4 (by omega)
    obtain ⟨b5, p5, e5⟩ := o 5 (by omega)
    obtain ⟨b6, p6, e6⟩ := o 6 (by omega)
    clear o
    have E : Hid (rowA (loadW s) v = #[.slice b0 (loadL s 0).length p0, .int .i64 (loadW s), .slice b1 (loadL s 1).length p1, .slice b2 (loadL s 2).length p2, .slice b3 (loadL s 3).length p3, .slice b4 (loadL s 4).length p4, .slice b5 (loadL s 5).length p5, .slice b6 (loadL s 6).length p6]) := by show _ = _; unfold rowA; rw [e0, e1, e2, e3, e4, e5, e6]
    clear e0 e1 e2 e3 e4 e5 e6
    rw [E.out]
    have fr : ∀ o, w6.frozen? ⟨w.heap.size, o, none⟩ = false := fun _ => frozen_of_row _ _ _ _ _ t7
    have fk : w6.frozen? ⟨w.heap.size + 1, 0, none⟩ = false := frozen_of_row _ _ _ _ _ k7
    have t7' := t7
    unfold zeroA at t7'
    obtain ⟨y0, y1, y2, y3, y4, y5, y6, y7⟩ := row_eight t7'
    clear t7'
    have z0 : w6.cell? ⟨w.heap.size + 1, 0, none⟩ = some (.int .i64 0) := row_cells k7 0
    go_wp2
    refine leaves_cons (f := 80) (args := #[.pointer (some ⟨w.heap.size, 0, none⟩), .pointer (some ⟨w.heap.size + 1, 0, none⟩)]) (by simp) (by simp [go_sem]) ?_
    refine (catch_idle _ _ _).mono ?_
    rintro e u' w'' ⟨rfl, rfl, hw⟩
    obtain ⟨t9, k9, b9, f9⟩ := laid_good b7 t7 k7 (by omega) fam _ _ _ _ _ _ _ _ hw
    clear hw t7 k7 b7 fam y0 y1 y2 y3 y4 y5 y6 y7 z0 fr fk
    obtain ⟨y0, y1, y2, y3, y4, y5, y6, y7⟩ := row_eight t9
    have z0 : w''.cell? ⟨w.heap.size + 1, 0, none⟩ = some (.int .i64 0) := row_cells k9 0
    simp [Leaves, settle, results, Try.results36, go_sem, y0, y1, y2, y3, y4, y5, y6, y7, z0]
    rw [HC0.out]
    exact ⟨gt, v, by rw [E.out], by omega, f9, b9⟩
  · have HCn : Hid (¬loadC s = 0) := hC
    obtain ⟨eW, eL⟩ := load_bad (s := s) rfl hC
    have HX : Hid (loadW s = 0 ∧ loadL s = fun _ => []) := ⟨eW, eL⟩
    clear hC t6 k6 b6 hs6 hbs' K6 eW eL
    refine leaves_cons (f := 80) (args := #[.pointer (some ⟨w.heap.size, 0, none⟩), .pointer (some ⟨w.heap.size + 1, 0, none⟩)]) (by simp) (by simp [go_sem]) ?_
    refine (catch_bad b7 (loadC s) t7 k7).mono ?_
    rintro e u' w'' ⟨rfl, rfl, t2, k2, b2⟩
    unfold zeroA at t2
    obtain ⟨y0, y1, y2, y3, y4, y5, y6, y7⟩ := row_eight t2
    have z0 : w''.cell? ⟨w.heap.size + 1, 0, none⟩ = some (.int .i64 (loadC s)) := row_cells k2 0
    simp [Leaves, settle, results, Try.results36, go_sem, y0, y1, y2, y3, y4, y5, y6, y7, z0]
    rw [HX.out.1, HX.out.2]
    exact ⟨w.heap.size, fun _ => .slice none 0 0, rfl, Nat.le_refl _, Fam.nil _ _ _, b2⟩
theorem implLoad_ok (s : ByteArray) (w : World) (hs : s.size ≤ 1048576) :
    Calls Try.prog 36 #[.string s] w fun e w' => LoadAns w (loadW s) (loadC s) (loadL s) e w' := by
  by_cases h : (s.size : Int) < 268
  · have hC : loadC s = 1 := by unfold loadC; rw [if_pos h]
    obtain ⟨e1, e2⟩ := load_bad hC (by decide)
    rw [e1, e2, hC]
    exact implLoad_short s w h
  · exact implLoad_long s w hs h
end Go.Proofs.Ytplhghhfdabccaa
