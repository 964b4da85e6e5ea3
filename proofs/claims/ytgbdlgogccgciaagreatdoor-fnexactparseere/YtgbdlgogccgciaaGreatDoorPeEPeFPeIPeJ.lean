import Derived.Test.YtgbdlgogccgciaaGreatDoorPeD
import Derived.Test.YtgbdlgogccgciaaGreatDoorNodeSNodeTNodeUMarks
import Derived.Deep.AppendLies
namespace Go.Proofs.YtgbdlgogccgciaaGreatDoor
open Go.RowKit
attribute [local go_sem ↓] Go.wp_at_zero Go.wp_at_succ

/- A ROW OF 256 BOOLS, THE SPECIFICATION's SETS. -/
theorem Tryz.infoBoolP : (Tryz.prog.info? 4).map (fun i => (i.zero, i.size, i.bytes)) = some (some (.bool false), 1, 1) := by kernel_rfl
theorem own_fullE {w : World} {base : Nat} {e : TypeId} {g n : Nat} {xs : List Value} (h : w.ownsRow base e 1 (.slice (some ⟨g, 0, none⟩) n n) n xs) : w.heap[g]? = some (.cells xs.toArray e (0, 0)) := by
  rcases h.2 with ⟨h, _⟩ | ⟨g', cap, cr, h, _, hrow, _, _, hsz, htk⟩
  · cases h
  · cases h
    rw [hrow]
    congr 2
    apply Array.ext'
    rw [← htk]
    exact (List.take_of_length_le (by rw [Array.length_toList]; omega)).symm
theorem made_marks : (madeCells (Value.bool false).cells (256 * 1)).toList.toArray = marksArr (fun _ => false) := by
  apply Array.ext_getElem?
  intro i
  by_cases h : i < 256
  · rw [marksArr_get _ _ h]
    simp [madeCells, Value.cells, Nat.mod_one, h]
  · have hn : (marksArr fun _ => false)[i]? = none := Array.getElem?_eq_none (by rw [marksArr_size]; omega)
    rw [hn]
    apply Array.getElem?_eq_none
    simp [madeCells]
    omega
theorem marksArr_put (f : Nat → Bool) (i : Nat) (b : Bool) : (marksArr f).setIfInBounds i (.bool b) = marksArr (fun c => if c = i then b else f c) := by
  apply Array.ext_getElem?
  intro j
  rw [Array.getElem?_setIfInBounds, marksArr_size]
  by_cases hj : j < 256
  · rw [marksArr_get _ _ hj, marksArr_get _ _ hj]
    by_cases e : i = j
    · subst e; simp [hj]
    · have e' : ¬j = i := fun h => e h.symm
      simp [e, e']
  · have h1 : ∀ g, (marksArr g)[j]? = none := fun g => Array.getElem?_eq_none (by rw [marksArr_size]; omega)
    rw [h1, h1]
    split <;> simp_all
def BRow (W : World) (G : Nat) (f : Nat → Bool) : Prop := W.heap[G]? = some (.cells (marksArr f) 4 (0, 0))
theorem BRow.get {W : World} {G : Nat} {f : Nat → Bool} (h : BRow W G f) {i : Nat} (hi : i < 256) : W.cell? ⟨G, i, none⟩ = some (.bool (f i)) := by rw [cell_of_row _ _ _ _ _ _ h, marksArr_get _ _ hi]
theorem BRow.thaw {W : World} {G : Nat} {f : Nat → Bool} (h : BRow W G f) (i : Nat) : W.frozen? ⟨G, i, none⟩ = false := frozen_of_row _ _ _ _ _ h
theorem BRow.put {W : World} {G : Nat} {f : Nat → Bool} (h : BRow W G f) (i : Nat) (b : Bool) : BRow (W.setCell ⟨G, i, none⟩ (.bool b)) G (fun c => if c = i then b else f c) := by
  unfold BRow
  rw [heap_setCell_same _ _ _ _ _ _ h, marksArr_put]
theorem BRow.congr {W : World} {G : Nat} {f g : Nat → Bool} (h : BRow W G f) (e : ∀ c, c < 256 → f c = g c) : BRow W G g := by unfold BRow; rw [← marksArr_ext e]; exact h
theorem BRow.below {W W' : World} {G : Nat} {f : Nat → Bool} (h : BRow W G f) (hb : Below W.heap.size W W') : BRow W' G f := row_below h hb

set_option maxRecDepth 100000 in
set_option maxHeartbeats 1000000 in
theorem l1Bytes_ok (lo hi : Int) (w : World) (h0 : 0 ≤ lo) (h1 : hi ≤ 255) :
    Calls Tryz.prog 24 #[.int .i64 lo, .int .i64 hi] w fun e w' => e = .returned (.slice (some ⟨w.heap.size, 0, none⟩) 256 256) ∧ BRow w' w.heap.size (rangeB lo hi) ∧ Below w.heap.size w w' := by
  obtain ⟨l, rfl⟩ := Int.eq_ofNat_of_zero_le h0
  obtain ⟨iB, hjB, hyB0, hyB1, hyB2⟩ := info_parts Tryz.infoBoolP
  go_enter Tryz.func24, Tryz.ntmps24
  go_wp2_with (refine wpList_make_full _ rfl _ _ 34 rfl w.heap.size 4 iB _ 1 Tryz.underlying34 hjB hyB0 hyB1 _ _ _ _ 256 rfl rfl rfl rfl (by rw [hyB2]; omega) (by unfold maxLen; omega) (Nat.le_refl _) ?_; intro w1 hown hgrow)
  have r1 := own_fullE hown
  rw [made_marks] at r1
  have hb1 : Below w.heap.size w w1 := (Below.refl _ _).grown hgrow (Nat.le_refl _) (by intro k h; cases h)
  clear hown hgrow
  go_loopw [6] (fun i wr => ∃ k : Nat, l ≤ k ∧ (k = l ∨ (k : Int) ≤ hi + 1) ∧ i = .int .i64 k ∧ Below w.heap.size w wr ∧ BRow wr w.heap.size (markUp (fun _ => false) l k))
    (fun i _ => (hi + 1 - intOf i).toNat)
  case atStart => exact ⟨l, Nat.le_refl _, .inl rfl, rfl, hb1, by unfold BRow; rw [markUp_zero]; exact r1⟩
  case round =>
    obtain ⟨k, hk, hk2, rfl, hb, hr⟩ := hrel
    by_cases hlt : (k : Int) ≤ hi
    · have hk3 : k < 256 := by omega
      have c0 := hr.get hk3
      have f0 := hr.thaw k
      generalize markUp (fun _ => false) l k k = old at c0
      have HP : Hid (BRow (wr.setCell ⟨w.heap.size, k, none⟩ (.bool true)) w.heap.size (markUp (fun _ => false) l (k + 1))) := by
        show BRow _ _ _
        unfold BRow
        rw [heap_setCell_same _ _ _ _ _ _ hr, marksArr_set, markUp_succ _ _ _ hk]
      clear hr
      go_wp2
      go_roundw
      case rel => exact ⟨k + 1, by omega, by omega, by go_num, hb.setCell (by simp) _, HP.out⟩
      case measure => simp [intOf]; omega
    · have HR : Hid (BRow wr w.heap.size (rangeB l hi)) := by
        show BRow _ _ _
        unfold BRow at hr ⊢
        rw [hr, markUp_end (fun _ => false) l k hi hk2 (by omega)]
        congr 3
      clear hr
      go_wp2
      go_ret
      exact ⟨rfl, HR.out, hb⟩
end Go.Proofs.YtgbdlgogccgciaaGreatDoor
namespace Go.Proofs.YtgbdlgogccgciaaGreatDoor
open Go.RowKit
attribute [local go_sem ↓] Go.wp_at_zero Go.wp_at_succ

/- BRACKETS, THE SPECIFICATION's SIDE. -/
/-- What l1Bracket answers: its set in a new row, the place behind it. -/
def BrkA (w : World) (a : Nat) (o : Option ((Nat → Bool) × Nat)) (e : Ending) (w' : World) : Prop := Below w.heap.size w w' ∧ w.heap.size < w'.heap.size ∧ match o with
  | none => e = .returned (.tuple #[.slice (some ⟨w.heap.size, 0, none⟩) 256 256, .int .i64 (-1)])
  | some (f, n) => e = .returned (.tuple #[.slice (some ⟨w.heap.size, 0, none⟩) 256 256, .int .i64 ((a + 1 + n : Nat) : Int)]) ∧ BRow w' w.heap.size f
theorem BrkA.bad {w w' : World} {a : Nat} {o : Option ((Nat → Bool) × Nat)} (h1 : Below w.heap.size w w') (h2 : w.heap.size < w'.heap.size) (h : o = none) : BrkA w a o (.returned (.tuple #[.slice (some ⟨w.heap.size, 0, none⟩) 256 256, .int .i64 (-1)])) w' := by
  subst h; exact ⟨h1, h2, rfl⟩
theorem BrkA.good {w w' : World} {a n : Nat} {o : Option ((Nat → Bool) × Nat)} {f : Nat → Bool} {z : Int} (h1 : Below w.heap.size w w') (h2 : BRow w' w.heap.size f) (h : o = some (f, n)) (hz : z = ((a + 1 + n : Nat) : Int)) : BrkA w a o (.returned (.tuple #[.slice (some ⟨w.heap.size, 0, none⟩) 256 256, .int .i64 z])) w' := by
  subst h hz; exact ⟨h1, row_lt h2, rfl, h2⟩
/-- Where the walk over items stands: at k, the bytes f; B where the first item begins. -/
structure BrkS (t : ByteArray) (a B : Nat) (neg : Bool) (k : Nat) (f : Nat → Bool) : Prop where
  go : itemsF (t.data.toList.drop B) noB (B - (a + 1)) true = itemsF (t.data.toList.drop k) f (k - (a + 1)) (decide (k = B))
  whole : bracketF (t.data.toList.drop (a + 1)) = if neg = true then (itemsF (t.data.toList.drop B) noB (B - (a + 1)) true).map (fun q => (notB q.1, q.2)) else itemsF (t.data.toList.drop B) noB (B - (a + 1)) true
  b : a + 1 ≤ B
  ge : B ≤ k
  le : k ≤ t.size
theorem BrkS.start0 {t : ByteArray} {a : Nat} (h : ¬atL t.data.toList (a + 1) = 94) (hl : a < t.size) : BrkS t a (a + 1) false (a + 1) noB := by
  refine ⟨by simp, ?_, by omega, by omega, by omega⟩
  unfold bracketF
  rw [if_neg (by rw [atL_drop]; simpa using h), if_neg (by decide), Nat.sub_self]
theorem BrkS.start1 {t : ByteArray} {a : Nat} (h : atL t.data.toList (a + 1) = 94) : BrkS t a (a + 2) true (a + 2) noB := by
  have hl := atL_lt.1 (show 0 ≤ atL t.data.toList (a + 1) by omega)
  rw [Array.length_toList] at hl
  refine ⟨by simp, ?_, by omega, by omega, by show a + 2 ≤ t.data.size; omega⟩
  unfold bracketF
  rw [if_pos (by rw [atL_drop]; simpa using h), if_pos rfl, List.drop_drop, show a + 2 - (a + 1) = 1 by omega]
theorem BrkS.fin {t : ByteArray} {a B k : Nat} {neg : Bool} {f : Nat → Bool} (h : BrkS t a B neg k f) (hk : B < k) (hc : atL t.data.toList k = 93) : bracketF (t.data.toList.drop (a + 1)) = some (if neg = true then notB f else f, k - (a + 1) + 1) := by
  have e : itemsF (t.data.toList.drop k) f (k - (a + 1)) (decide (k = B)) = some (f, k - (a + 1) + 1) := by
    rw [show decide (k = B) = false by simp; omega]
    exact itemsF_end (by rw [atL_drop]; simpa using hc)
  rw [h.whole, h.go, e]
  cases neg <;> rfl
theorem BrkS.none {t : ByteArray} {a B k : Nat} {neg : Bool} {f : Nat → Bool} (h : BrkS t a B neg k f) (hn : itemsF (t.data.toList.drop k) f (k - (a + 1)) (decide (k = B)) = none) : bracketF (t.data.toList.drop (a + 1)) = none := by
  rw [h.whole, h.go, hn]
  cases neg <;> rfl
theorem BrkS.over {t : ByteArray} {a B k : Nat} {neg : Bool} {f : Nat → Bool} (h : BrkS t a B neg k f) (hk : ¬k < t.size) : bracketF (t.data.toList.drop (a + 1)) = .none :=
  h.none (by rw [List.drop_eq_nil_of_le (by rw [Array.length_toList]; show t.size ≤ k; omega)]; exact itemsF_nil)
theorem BrkS.badI {t : ByteArray} {a B k : Nat} {neg : Bool} {f : Nat → Bool} (h : BrkS t a B neg k f) (hc : ¬(atL t.data.toList k = 93 ∧ B < k)) (hi : itemF (t.data.toList.drop k) = .none) : bracketF (t.data.toList.drop (a + 1)) = .none := by
  refine h.none (itemsF_bad ?_ hi)
  rintro ⟨h1, h2⟩
  rw [atL_drop] at h1
  have := h.ge
  have h3 : ¬k = B := by simpa using h2
  exact hc ⟨by simpa using h1, by omega⟩
theorem BrkS.step {t : ByteArray} {a B k m : Nat} {neg : Bool} {f g f' : Nat → Bool} (h : BrkS t a B neg k f) (hk : k < t.size) (hc : ¬(atL t.data.toList k = 93 ∧ B < k)) (hi : itemF (t.data.toList.drop k) = some (g, m)) (hm : k + m ≤ t.size) (hf : f' = orB f g) : BrkS t a B neg (k + m) f' := by
  subst hf
  have hp := itemF_pos hi
  have h1 := h.ge
  have h2 := h.b
  refine ⟨?_, h.whole, h.b, by omega, hm⟩
  have hne : t.data.toList.drop k ≠ [] := by
    intro e
    have := congrArg List.length e
    rw [List.length_drop, Array.length_toList] at this
    have : t.data.size = t.size := rfl
    simp at *
    omega
  rw [h.go, itemsF_one hne ?_ hi, List.drop_drop, show k - (a + 1) + m = k + m - (a + 1) by omega, show decide (k + m = B) = false by simp; omega]
  rintro ⟨h3, h4⟩
  rw [atL_drop] at h3
  have h5 : ¬k = B := by simpa using h4
  exact hc ⟨by simpa using h3, by omega⟩
theorem itemF_elem {l : List UInt8} (h0 : atL l 0 = 91) (h1 : atL l 1 = 46 ∨ atL l 1 = 61) : itemF l = none := by
  unfold itemF; rw [if_neg (by omega), if_pos ⟨h0, h1⟩]
theorem itemF_class {l : List UInt8} (h0 : atL l 0 = 91) (h1 : atL l 1 = 58) : itemF l = match cut2 58 93 (l.drop 2) with
    | none => none
    | some (name, _) => match classF name with
      | none => none
      | some f => some (f, name.length + 4) := by
  unfold itemF; rw [if_pos ⟨h0, h1⟩]; rfl
theorem itemF_char {l : List UInt8} (hn : ¬(atL l 0 = 91 ∧ (atL l 1 = 58 ∨ atL l 1 = 46 ∨ atL l 1 = 61))) (h : ¬(atL l 1 = 45 ∧ 0 ≤ atL l 2 ∧ atL l 2 ≠ 93)) : itemF l = some (rangeB (atL l 0) (atL l 0), 1) := by
  unfold itemF; rw [if_neg (by omega), if_neg (by omega), if_neg h]
theorem itemF_bad {l : List UInt8} (h1 : atL l 1 = 45) (h2 : 0 ≤ atL l 2) (h3 : atL l 2 ≠ 93) (hb : (atL l 2 = 91 ∧ (atL l 3 = 46 ∨ atL l 3 = 61 ∨ atL l 3 = 58)) ∨ atL l 2 < atL l 0) : itemF l = none := by
  unfold itemF; rw [if_neg (by omega), if_neg (by omega), if_pos ⟨h1, h2, h3⟩, if_pos hb]
theorem itemF_range {l : List UInt8} (h1 : atL l 1 = 45) (h2 : 0 ≤ atL l 2) (h3 : atL l 2 ≠ 93) (hb : ¬((atL l 2 = 91 ∧ (atL l 3 = 46 ∨ atL l 3 = 61 ∨ atL l 3 = 58)) ∨ atL l 2 < atL l 0)) : itemF l = some (rangeB (atL l 0) (atL l 2), 3) := by
  unfold itemF; rw [if_neg (by omega), if_neg (by omega), if_pos ⟨h1, h2, h3⟩, if_neg hb]
theorem BRow.grown {W : World} {G : Nat} {f : Nat → Bool} {l k : Nat} {hi : Int} (h : BRow W G (markUp f l k)) (h1 : k = l ∨ (k : Int) ≤ hi + 1) (h2 : hi < k) : BRow W G (orB f (rangeB l hi)) := by
  unfold BRow at h ⊢
  rw [h, markUp_end f l k hi h1 h2]
  congr 3
end Go.Proofs.YtgbdlgogccgciaaGreatDoor
namespace Go.Proofs.YtgbdlgogccgciaaGreatDoor
open Go.RowKit

/- A NAME IN A BRACKET (plain mathematics): where the first colon lies that a closing bracket follows. -/
theorem cut2_some {c d : UInt8} : ∀ {l q r : List UInt8}, cut2 c d l = some (q, r) → l = q ++ c :: d :: r ∧ ∀ x, x < q.length → ¬(l[x]? = some c ∧ l[x + 1]? = some d)
  | [], q, r, h => by simp [cut2] at h
  | y :: l, q, r, h => by
    unfold cut2 at h
    by_cases e : y = c ∧ l.head? = some d
    · rw [if_pos e] at h
      cases h
      obtain ⟨e1, e2⟩ := e
      subst e1
      refine ⟨?_, fun x hx => by simp at hx⟩
      cases l with
      | nil => simp at e2
      | cons z l => simp at e2; subst e2; rfl
    · rw [if_neg e] at h
      cases hc : cut2 c d l with
      | none => rw [hc] at h; cases h
      | some p =>
        obtain ⟨a, b⟩ := p
        rw [hc] at h
        cases h
        obtain ⟨h1, h2⟩ := cut2_some hc
        refine ⟨by rw [h1]; rfl, ?_⟩
        intro x hx
        cases x with
        | zero =>
          rintro ⟨h3, h4⟩
          refine e ⟨by simpa using h3, ?_⟩
          rw [List.head?_eq_getElem?]
          simpa using h4
        | succ x =>
          have := h2 x (by simpa using hx)
          simpa using this
theorem cut2_none {c d : UInt8} : ∀ {l : List UInt8}, cut2 c d l = none → ∀ x, ¬(l[x]? = some c ∧ l[x + 1]? = some d)
  | [], _, x => by simp
  | y :: l, h, x => by
    unfold cut2 at h
    by_cases e : y = c ∧ l.head? = some d
    · rw [if_pos e] at h; cases h
    · rw [if_neg e] at h
      cases hc : cut2 c d l with
      | some p => rw [hc] at h; cases h
      | none =>
        cases x with
        | zero =>
          rintro ⟨h3, h4⟩
          refine e ⟨by simpa using h3, ?_⟩
          rw [List.head?_eq_getElem?]
          simpa using h4
        | succ x =>
          have := cut2_none hc x
          simpa using this
/-- The nine names. -/
def namesL : List (List UInt8) := [nAlpha, nDigit, nAlnum, nUpper, nLower, nSpace, nBlank, nPunct, nXdigit]
theorem class_known (n : List UInt8) : (classF n).isSome = decide (n ∈ namesL) := by
  unfold classF namesL
  by_cases h0 : n = nAlpha
  · rw [if_pos h0]; simp [h0]
  rw [if_neg h0]
  by_cases h1 : n = nDigit
  · rw [if_pos h1]; simp [h1]
  rw [if_neg h1]
  by_cases h2 : n = nAlnum
  · rw [if_pos h2]; simp [h2]
  rw [if_neg h2]
  by_cases h3 : n = nUpper
  · rw [if_pos h3]; simp [h3]
  rw [if_neg h3]
  by_cases h4 : n = nLower
  · rw [if_pos h4]; simp [h4]
  rw [if_neg h4]
  by_cases h5 : n = nSpace
  · rw [if_pos h5]; simp [h5]
  rw [if_neg h5]
  by_cases h6 : n = nBlank
  · rw [if_pos h6]; simp [h6]
  rw [if_neg h6]
  by_cases h7 : n = nPunct
  · rw [if_pos h7]; simp [h7]
  rw [if_neg h7]
  by_cases h8 : n = nXdigit
  · rw [if_pos h8]; simp [h8]
  rw [if_neg h8]
  simp [h0, h1, h2, h3, h4, h5, h6, h7, h8]
end Go.Proofs.YtgbdlgogccgciaaGreatDoor
namespace Go.Proofs.YtgbdlgogccgciaaGreatDoor
open Go.RowKit
attribute [local go_sem ↓] Go.wp_at_zero Go.wp_at_succ

/- THE NAMES OF THE CLASSES. -/
def namesV : Array Value := (namesL.map strV).toArray
set_option maxRecDepth 100000 in
set_option maxHeartbeats 1000000 in
theorem l1ClassNames_ok (w : World) :
    Calls Tryz.prog 43 #[] w fun e w' => e = .returned (.slice (some ⟨w.heap.size, 0, none⟩) 9 9) ∧ w'.heap[w.heap.size]? = some (.cells namesV 9 (0, 0)) ∧ Below w.heap.size w w' := by
  go_enter Tryz.func43, Tryz.ntmps43
  go_wp2
  go_ret
  exact ⟨rfl, heap_alloc_new _ _, (Below.refl _ _).alloc (Nat.le_refl _) _⟩
end Go.Proofs.YtgbdlgogccgciaaGreatDoor
