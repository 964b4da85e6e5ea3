import Derived.Test.YtipndbhedaknnaaDoorWrdJ
import Derived.RangeFuncBox
namespace Go.Proofs.YtipndbhedaknnaaDoor
open Go.RowKit
attribute [local go_sem ↓] Go.wp_at_zero Go.wp_at_succ

/- THE FIELDS OF A LINE, behind a pointer. -/
structure FldAt (W : World) (b : Nat) (ls : List (List UInt8)) (bad : Bool) (g o cap : Nat) : Prop where
  box : W.heap[b]? = some (.cells #[.slice (some ⟨g, o, none⟩) ls.length cap, .bool bad] 84 (0, 0))
  row : ∀ j (h : j < ls.length), W.cell? ⟨g, o + j, none⟩ = some (strV ls[j])
  ne : g < b
  room : ls.length ≤ cap
  max : cap ≤ 9223372036854775807
theorem FldAt.c0 {W : World} {b : Nat} {ls : List (List UInt8)} {bad : Bool} {g o cap : Nat} (h : FldAt W b ls bad g o cap) : W.cell? ⟨b, 0, none⟩ = some (.slice (some ⟨g, o, none⟩) ls.length cap) := by simp [World.cell?, h.box]
theorem FldAt.c1 {W : World} {b : Nat} {ls : List (List UInt8)} {bad : Bool} {g o cap : Nat} (h : FldAt W b ls bad g o cap) : W.cell? ⟨b, 1, none⟩ = some (.bool bad) := by simp [World.cell?, h.box]
theorem FldAt.f {W : World} {b : Nat} {ls : List (List UInt8)} {bad : Bool} {g o cap : Nat} (h : FldAt W b ls bad g o cap) (j : Nat) : W.frozen? ⟨b, j, none⟩ = false := by simp [World.frozen?, h.box]
theorem FldAt.lt {W : World} {b : Nat} {ls : List (List UInt8)} {bad : Bool} {g o cap : Nat} (h : FldAt W b ls bad g o cap) : b < W.heap.size := (Array.getElem?_eq_some_iff.1 h.box).1

set_option maxRecDepth 100000 in
set_option maxHeartbeats 1000000 in
theorem allGood_ok (b : Nat) (ls : List (List UInt8)) (bad : Bool) (g o cap : Nat) (w : World) (h : FldAt w b ls bad g o cap) (r : Bool) (hr : (!bad && decide (ls.length = 0)) = r) :
    Calls Tryd.prog 36 #[.pointer (some ⟨b, 0, none⟩)] w fun e w' => e = .returned (.bool r) ∧ w' = w := by
  have c0 := h.c0
  have c1 := h.c1
  subst hr
  cases bad
  · by_cases hl : (ls.length : Int) = 0
    · have hl' : ls.length = 0 := by omega
      rw [decide_eq_true hl']
      rw [hl'] at c0
      clear hl hl'
      go_enter Tryd.func36, Tryd.ntmps36
      go_wp2
      go_ret
      exact ⟨rfl, rfl⟩
    · have hl' : ¬ls.length = 0 := by omega
      have hd : ((ls.length : Int) == 0) = false := by simpa using hl
      rw [decide_eq_false hl']
      clear hl hl'
      go_enter Tryd.func36, Tryd.ntmps36
      go_wp2
      go_ret
      exact ⟨rfl, rfl⟩
  · go_enter Tryd.func36, Tryd.ntmps36
    go_wp2
    go_ret
    exact ⟨rfl, rfl⟩

theorem grown_set (W : World) (b j : Nat) (v : Value) : W.grownBy (W.setCell ⟨b, j, none⟩ v) (some b) :=
  ⟨rfl, rfl, rfl, by simp, fun k _ hk => Below.heap_setCell W _ _ k (fun e => hk (by rw [e]))⟩
theorem FldAt.setBad {W : World} {b : Nat} {ls : List (List UInt8)} {bad : Bool} {g o cap : Nat} (h : FldAt W b ls bad g o cap) (v : Bool) : FldAt (W.setCell ⟨b, 1, none⟩ (.bool v)) b ls v g o cap :=
  ⟨by rw [heap_setCell_same W b 1 _ _ _ h.box]; rfl, fun j hj => by rw [World.cell?_of_block (Below.heap_setCell W _ _ g (Nat.ne_of_lt h.ne))]; exact h.row j hj, h.ne, h.room, h.max⟩
theorem FldAt.drop1 {W : World} {b : Nat} {x : List UInt8} {rest : List (List UInt8)} {bad : Bool} {g o cap : Nat} (h : FldAt W b (x :: rest) bad g o cap) : FldAt (W.setCell ⟨b, 0, none⟩ (.slice (some ⟨g, o + 1, none⟩) rest.length (cap - 1))) b rest bad g (o + 1) (cap - 1) :=
  ⟨by rw [heap_setCell_same W b 0 _ _ _ h.box]; rfl, fun j hj => by
    rw [World.cell?_of_block (Below.heap_setCell W _ _ g (Nat.ne_of_lt h.ne))]
    have := h.row (j + 1) (by simp; omega)
    rw [show o + (j + 1) = o + 1 + j by omega] at this
    exact this, h.ne, by have := h.room; simp at this; omega, by have := h.max; omega⟩
theorem FldAt.drop0 {W : World} {b : Nat} {x : List UInt8} {rest : List (List UInt8)} {bad : Bool} {g o : Nat} (h : FldAt W b (x :: rest) bad g o 1) : FldAt (W.setCell ⟨b, 0, none⟩ (.slice (some ⟨g, o, none⟩) rest.length 0)) b rest bad g o 0 :=
  ⟨by rw [heap_setCell_same W b 0 _ _ _ h.box]; rfl, fun j hj => by have := h.room; simp at this; subst this; exact absurd hj (Nat.not_lt_zero _), h.ne, by have := h.room; simp at this; subst this; exact Nat.le_refl _, by omega⟩
/-- What is left behind a taken field: nothing but block b turned; b as told. -/
def FldTo (w : World) (b : Nat) (ls : List (List UInt8)) (bad : Bool) (w' : World) : Prop := w.grownBy w' (some b) ∧ ∃ g o cap, FldAt w' b ls bad g o cap
set_option maxRecDepth 100000 in
set_option maxHeartbeats 1000000 in
theorem next_ok (b : Nat) (ls : List (List UInt8)) (bad : Bool) (g o cap : Nat) (w : World) (hF : FldAt w b ls bad g o cap) :
    Calls Tryd.prog 49 #[.pointer (some ⟨b, 0, none⟩)] w fun e w' => e = .returned (strV (ls.headD [])) ∧ FldTo w b ls.tail (bad || decide (ls.length = 0)) w' := by
  have c0 := hF.c0
  have c1 := hF.c1
  have f0 := hF.f 0
  have f1 := hF.f 1
  cases ls with
  | nil =>
    go_enter Tryd.func49, Tryd.ntmps49
    go_wp2
    go_ret
    exact ⟨rfl, grown_set _ _ _ _, g, o, cap, by simpa using hF.setBad true⟩
  | cons x rest =>
    have r0 : w.cell? ⟨g, o, none⟩ = some (.string ⟨x.toArray⟩) := hF.row 0 (by simp)
    have hd : (((rest.length : Nat) : Int) + 1 == 0) = false := by simp; omega
    have hl0 : (0 : Int) < ((rest.length : Nat) : Int) + 1 := by omega
    have hl1 : (1 : Int) ≤ ((rest.length : Nat) : Int) + 1 := by omega
    have hcp := hF.room
    go_enter Tryd.func49, Tryd.ntmps49
    go_wp2
    · go_ret
      exact ⟨rfl, grown_set _ _ _ _, g, o, 0, by subst h; simpa using hF.drop0⟩
    · go_ret
      exact ⟨rfl, grown_set _ _ _ _, g, o + 1, cap - 1, by simpa using hF.drop1⟩

theorem FldTo.step {w w1 w' : World} {b : Nat} {ls : List (List UInt8)} {bad : Bool} (h : w.grownBy w1 (some b)) (k : FldTo w1 b ls bad w') : FldTo w b ls bad w' := ⟨h.trans k.1, k.2⟩
theorem FldAt.grown {w w' : World} {b : Nat} {ls : List (List UInt8)} {bad : Bool} {g o cap : Nat} (h : FldAt w b ls bad g o cap) (hb : Below w.heap.size w w') (hg : g < w.heap.size ∨ ls = []) : FldAt w' b ls bad g o cap :=
  ⟨(hb.block b h.lt).trans h.box, fun j hj => by
    rcases hg with hg | hg
    · exact (hb.cell (p := ⟨g, o + j, none⟩) hg).trans (h.row j hj)
    · subst hg; exact absurd hj (Nat.not_lt_zero _), h.ne, h.room, h.max⟩
theorem FldAt.glt {w : World} {b : Nat} {ls : List (List UInt8)} {bad : Bool} {g o cap : Nat} (h : FldAt w b ls bad g o cap) : g < w.heap.size ∨ ls = [] := by
  cases ls with
  | nil => exact .inr rfl
  | cons x r =>
    left
    have := h.row 0 (by simp)
    apply Classical.byContradiction
    intro hn
    rw [World.cell?] at this
    simp [Array.getElem?_eq_none (by omega : w.heap.size ≤ g)] at this
def wordOf (ls : List (List UInt8)) : Option (List UInt8) := wordF (ls.headD [])
set_option maxRecDepth 100000 in
set_option maxHeartbeats 1000000 in
theorem word_ok (b : Nat) (ls : List (List UInt8)) (bad : Bool) (g o cap : Nat) (w : World) (h : FldAt w b ls bad g o cap) (hsz : (ls.headD []).length ≤ 1048576) :
    Calls Tryd.prog 37 #[.pointer (some ⟨b, 0, none⟩)] w fun e w' => e = .returned (strV (optL (wordOf ls))) ∧ FldTo w b ls.tail (bad || !(wordOf ls).isSome) w' := by
  have hnx := next_ok b ls bad g o cap w h
  obtain ⟨hd, hhd⟩ : ∃ hd, ls.headD [] = hd := ⟨_, rfl⟩
  have hrd : ∀ w, Calls Tryd.prog 50 #[strV hd] w fun e w' => e = .returned (.tuple #[strV (optL (wordOf ls)), .bool (wordOf ls).isSome]) ∧ Below w.heap.size w w' := fun w => by
    have := readWord_ok ⟨hd.toArray⟩ w (by rw [hhd] at hsz; show hd.toArray.size ≤ _; simpa using hsz)
    rw [show wordF (⟨hd.toArray⟩ : ByteArray).data.toList = wordOf ls by unfold wordOf; rw [hhd]] at this
    exact this
  rw [hhd] at hnx
  have hno : ls.length = 0 → wordOf ls = none := fun h0 => by
    have : ls = [] := List.eq_nil_of_length_eq_zero h0
    subst this; rfl
  cases hw : wordOf ls with
  | none =>
    rw [hw] at hrd
    go_enter Tryd.func37, Tryd.ntmps37
    go_wp2_with fail
    refine hnx.mono ?_
    rintro e w1 ⟨rfl, hg1, g1, o1, cap1, h1⟩
    go_wp2_with fail
    refine (hrd w1).mono ?_
    rintro e w2 ⟨rfl, hb2⟩
    have h2 := h1.grown hb2 h1.glt
    have hg2 : w.grownBy w2 (some b) := hg1.trans ⟨hb2.os, hb2.tape, hb2.output, hb2.size, fun k hk _ => hb2.block k hk⟩
    have c1 := h2.c1
    have f1 := h2.f 1
    go_wp2
    go_ret
    exact ⟨rfl, hg2.trans (grown_set _ _ _ _), _, _, _, by simpa using h2.setBad true⟩
  | some out =>
    rw [hw] at hrd
    have hz : decide (ls.length = 0) = false := by
      simp only [decide_eq_false_iff_not]
      intro h0
      rw [hno h0] at hw
      cases hw
    go_enter Tryd.func37, Tryd.ntmps37
    go_wp2_with fail
    refine hnx.mono ?_
    rintro e w1 ⟨rfl, hg1, g1, o1, cap1, h1⟩
    go_wp2_with fail
    refine (hrd w1).mono ?_
    rintro e w2 ⟨rfl, hb2⟩
    have h2 := h1.grown hb2 h1.glt
    have hg2 : w.grownBy w2 (some b) := hg1.trans ⟨hb2.os, hb2.tape, hb2.output, hb2.size, fun k hk _ => hb2.block k hk⟩
    go_wp2
    go_ret
    exact ⟨rfl, hg2, _, _, _, by rw [hz, Bool.or_false] at h2; simpa using h2⟩
end Go.Proofs.YtipndbhedaknnaaDoor
