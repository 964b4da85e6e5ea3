import Derived.Test.YtgbdlgogccgciaaGreatDoorNode
import Derived.Deep.QuietTactic
import Derived.BigQuiet
import Derived.Deep.WholeRow
import Derived.Laws.Tables
namespace Go.Proofs.YtgbdlgogccgciaaGreatDoor
open Go.RowKit

theorem ranges_first (rs : List (Int × Int)) : rangesOK 0 rs = rangesOK 0 (rs.drop 0) := rfl

end Go.Proofs.YtgbdlgogccgciaaGreatDoor
namespace Go.Proofs.YtgbdlgogccgciaaGreatDoor
open Go.RowKit

end Go.Proofs.YtgbdlgogccgciaaGreatDoor
namespace Go.Proofs.YtgbdlgogccgciaaGreatDoor
open Go.RowKit

end Go.Proofs.YtgbdlgogccgciaaGreatDoor
namespace Go.Proofs.YtgbdlgogccgciaaGreatDoor
open Go.RowKit

/-- 256 marks as an array's cells. -/
def marksArr (f : Nat → Bool) : Array Value := ((List.range 256).map fun c => Value.bool (f c)).toArray
theorem marksArr_size (f : Nat → Bool) : (marksArr f).size = 256 := by simp [marksArr]
theorem marksArr_get (f : Nat → Bool) (i : Nat) (h : i < 256) : (marksArr f)[i]? = some (.bool (f i)) := by simp [marksArr, h]
theorem marksArr_ext {f g : Nat → Bool} (h : ∀ c, c < 256 → f c = g c) : marksArr f = marksArr g := by
  unfold marksArr
  rw [List.map_congr_left fun c hc => by rw [h c (by simpa using hc)]]
theorem marksArr_set (f : Nat → Bool) (i : Nat) : (marksArr f).setIfInBounds i (.bool true) = marksArr (fun c => f c || c == i) := by
  apply Array.ext_getElem?
  intro j
  rw [Array.getElem?_setIfInBounds, marksArr_size]
  by_cases hj : j < 256
  · rw [marksArr_get _ _ hj, marksArr_get _ _ hj]
    by_cases e : i = j
    · subst e; simp [hj]
    · have e' : (j == i) = false := by simp; omega
      simp [e, e']
  · have h1 : ∀ g, (marksArr g)[j]? = none := fun g => Array.getElem?_eq_none (by rw [marksArr_size]; omega)
    rw [h1, h1]
    split <;> simp_all
theorem marksArr_one (f : Nat → Bool) : (marksArr f).all (·.oneCell') = true := by
  simp [marksArr, Value.oneCell']

/-- The marks with those from l on, ahead of k. -/
def markUp (f : Nat → Bool) (l k : Nat) : Nat → Bool := fun c => f c || decide (l ≤ c ∧ c < k)
theorem markUp_succ (f : Nat → Bool) (l k : Nat) (hk : l ≤ k) : marksArr (fun c => markUp f l k c || c == k) = marksArr (markUp f l (k + 1)) := by
  apply marksArr_ext
  intro c _
  unfold markUp
  rw [Bool.or_assoc]
  congr 1
  by_cases e : c = k
  · subst e; simp [hk]
  · have e' : (c == k) = false := beq_eq_false_iff_ne.2 e
    rw [e', Bool.or_false, decide_eq_decide]
    omega
theorem markUp_zero (f : Nat → Bool) (l : Nat) : marksArr (markUp f l l) = marksArr f := marksArr_ext fun c _ => by
  unfold markUp
  have : decide (l ≤ c ∧ c < l) = false := by rw [decide_eq_false_iff_not]; omega
  rw [this, Bool.or_false]
/-- The marks with a range. -/
def markIn (f : Nat → Bool) (lo hi : Int) : Nat → Bool := fun c => f c || decide (lo ≤ c ∧ (c : Int) ≤ hi)
theorem markUp_end (f : Nat → Bool) (l k : Nat) (hi : Int) (h : k = l ∨ (k : Int) ≤ hi + 1) (h2 : hi < k) : marksArr (markUp f l k) = marksArr (markIn f l hi) := marksArr_ext fun c _ => by
  unfold markUp markIn
  congr 1
  rw [decide_eq_decide]
  omega

theorem Tryz.zeroMarks : (Tryz.prog.info? 141).map (fun i => (i.zero, i.size)) = some (some (.agg (marksArr fun _ => false)), 256) := by kernel_rfl

set_option maxRecDepth 100000 in
set_option maxHeartbeats 400000 in
theorem with_ok (f : Nat → Bool) (lo hi : Int) (w : World) (h0 : 0 ≤ lo) (h1 : hi ≤ 255) :
    Calls Tryz.prog 67 #[.agg (marksArr f), .int .i64 lo, .int .i64 hi] w fun e w' => e = .returned (.agg (marksArr (markIn f lo hi))) ∧ Below w.heap.size w w' := by
  obtain ⟨l, rfl⟩ := Int.eq_ofNat_of_zero_le h0
  have hzv := (zero_of_info Tryz.zeroMarks).1
  have hzi : Hid _ := (zero_of_info Tryz.zeroMarks).2
  go_enter Tryz.func67, Tryz.ntmps67
  go_wp2
  go_loopw [7] (fun i wr => ∃ k : Nat, l ≤ k ∧ (k = l ∨ (k : Int) ≤ hi + 1) ∧ i = .int .i64 k ∧ Below w.heap.size w wr ∧ wr.heap[w.heap.size]? = some (.cells (marksArr (markUp f l k)) 141 (0, 0)) ∧ wr.heap[w.heap.size + 1]? = some (.cells (marksArr fun _ => false) 141 (0, 0)) ∧ w.heap.size + 1 < wr.heap.size)
    (fun i _ => (hi + 1 - intOf i).toNat)
  case atStart => exact ⟨l, Nat.le_refl _, .inl rfl, rfl, ((Below.refl _ _).alloc (Nat.le_refl _) _).alloc (by simp) _, by rw [heap_alloc2_old, markUp_zero], heap_alloc2_new _ _ _, by simp⟩
  case round =>
    obtain ⟨k, hk, hk2, rfl, hb, hr0, hr1, hsz⟩ := hrel
    by_cases hlt : (k : Int) ≤ hi
    · have hk3 : k < 256 := by omega
      have c0 : wr.cell? ⟨w.heap.size, k, none⟩ = some (.bool (markUp f l k k)) := by rw [cell_of_row _ _ _ _ _ _ hr0, marksArr_get _ _ hk3]
      have f0 : wr.frozen? ⟨w.heap.size, k, none⟩ = false := frozen_of_row _ _ _ _ _ hr0
      generalize markUp f l k k = old at c0
      have H0 : Hid _ := hr0
      have H1 : Hid _ := hr1
      clear hr0 hr1
      go_wp2
      go_roundw
      case rel => exact ⟨k + 1, by omega, by omega, by go_num, hb.setCell (by simp) _, by rw [heap_setCell_same _ _ _ _ _ _ H0.out, marksArr_set, markUp_succ _ _ _ hk], by rw [heap_setCell_other _ _ _ _ (by simp)]; exact H1.out, by simpa [World.setCell] using hsz⟩
      case measure => simp [intOf]; omega
    · have H0 : Hid _ := hr0
      have H1 : Hid _ := hr1
      clear hr0 hr1
      go_wp2_with (first | (refine wpList_load_row rfl 141 (.tmp 3) rfl w.heap.size rfl 141 _ (0, 0) _ H0.out Tryz.underlying141 rfl (by rw [marksArr_size]; exact hzi.out) ?_) | (refine wpList_store_row rfl 141 (.tmp 6) _ rfl (w.heap.size + 1) _ rfl rfl 141 _ H1.out (by rw [marksArr_size]; exact hzi.out) (by rw [marksArr_size, marksArr_size]) (marksArr_one _) ?_))
      refine bodyPost_ret (v := .agg (marksArr (markUp f l k))) (results_cell_row Tryz.results67 _ _ (w.heap.size + 1) 141 _ (0, 0) _ rfl (setRow_heap _ _ _ _ _ _ H1.out) Tryz.underlying141 rfl (by rw [marksArr_size]; exact hzi.out)) rfl ⟨?_, Below.setRow hb (by omega) _⟩
      rw [markUp_end f l k hi hk2 (by omega)]

/-- The marks of a list of ranges. -/
def marksF (rs : List (Int × Int)) : Nat → Bool := rs.foldl (fun f r => markIn f r.1 r.2) (fun _ => false)
theorem marksF_take (rs : List (Int × Int)) (k : Nat) (hk : k < rs.length) (a b : Int) (h : rs.getD k (0, 0) = (a, b)) : marksF (rs.take (k + 1)) = markIn (marksF (rs.take k)) a b := by
  unfold marksF
  rw [List.take_succ_eq_append_getElem hk, List.foldl_append]
  have : rs[k] = (a, b) := by rw [← h]; simp [List.getD, hk]
  rw [this]
  rfl

/-- What 'rangesOK' says of each range. -/
theorem rangesOK_at : ∀ (rs : List (Int × Int)) (least : Int), 0 ≤ least → rangesOK least rs = true → ∀ k, k < rs.length → 0 ≤ (rs.getD k (0, 0)).1 ∧ (rs.getD k (0, 0)).2 ≤ 255
  | [], _, _, _, k, hk => absurd hk (Nat.not_lt_zero _)
  | (a, b) :: r, least, hl, h, k, hk => by
    unfold rangesOK at h
    by_cases hc : a < least ∨ b < a ∨ 255 < b
    · rw [if_pos hc] at h; cases h
    · rw [if_neg hc] at h
      cases k with
      | zero => simp [List.getD]; omega
      | succ k => exact rangesOK_at r (b + 2) (by omega) h k (by simpa using hk)

set_option maxRecDepth 100000 in
set_option maxHeartbeats 400000 in
theorem marksOf_ok {lo : Nat} (v : Value) (rs : List (Int × Int)) (w : World) (hs : RangesAt lo w v rs) (hok : rangesOK 0 rs = true) :
    Calls Tryz.prog 91 #[v] w fun e w' => e = .returned (.agg (marksArr (marksF rs))) ∧ Below w.heap.size w w' := by
  obtain ⟨ao, cap, rfl, hm, hc⟩ := hs
  have Hok : Hid _ := hok
  clear hok
  have hzv := (zero_of_info Tryz.zeroMarks).1
  have hzi : Hid _ := (zero_of_info Tryz.zeroMarks).2
  have hbd := fun w => run_build (P := Tryz.prog) w 141 #[] (marksArr fun _ => false) (by kernel_rfl)
  go_enter Tryz.func91, Tryz.ntmps91
  go_wp2_with (refine wpList_store_row rfl 141 (.tmp 3) _ rfl (w.heap.size + 1) _ rfl rfl 141 _ (heap_alloc2_new _ _ _) (by rw [marksArr_size]; exact hzi.out) (by rw [marksArr_size]) (marksArr_one _) ?_)
  have hW : Below w.heap.size w (((w.alloc (.cells (marksArr fun _ => false) 141)).alloc (.cells (marksArr fun _ => false) 141)).setRow (w.heap.size + 1) (marksArr fun _ => false)) := Below.setRow (((Below.refl _ _).alloc (Nat.le_refl _) _).alloc (by simp) _) (by omega) _
  have hR0 : Hid ((((w.alloc (.cells (marksArr fun _ => false) 141)).alloc (.cells (marksArr fun _ => false) 141)).setRow (w.heap.size + 1) (marksArr fun _ => false)).heap[w.heap.size]? = some (.cells (marksArr fun _ => false) 141 (0, 0))) := by show _ = _; rw [setRow_other _ _ _ _ (by omega), heap_alloc2_old]
  have hR1 : Hid ((((w.alloc (.cells (marksArr fun _ => false) 141)).alloc (.cells (marksArr fun _ => false) 141)).setRow (w.heap.size + 1) (marksArr fun _ => false)).heap[w.heap.size + 1]? = some (.cells (marksArr fun _ => false) 141 (0, 0))) := setRow_heap _ _ _ _ _ _ (heap_alloc2_new _ _ _)
  go_loopw [9] (fun i wr => ∃ k : Nat, k ≤ rs.length ∧ i = .int .i64 k ∧ Below w.heap.size w wr ∧ Hid (wr.heap[w.heap.size]? = some (.cells (marksArr fun _ => false) 141 (0, 0))) ∧ Hid (wr.heap[w.heap.size + 1]? = some (.cells (marksArr (marksF (rs.take k))) 141 (0, 0))) ∧ w.heap.size + 1 < wr.heap.size)
    (fun i _ => rs.length - (intOf i).toNat)
  case atStart => exact ⟨0, Nat.zero_le _, rfl, hW, hR0, hR1, by simp⟩
  case round =>
    obtain ⟨k, hk, rfl, hb, H0, H1, hsz⟩ := hrel
    by_cases hlt : k < rs.length
    · obtain ⟨b, o, x, y, rfl, Hn, hbl, c0, c1⟩ := hc.elem hb hlt
      obtain ⟨hx0, hy1⟩ := rangesOK_at rs 0 (by omega) Hok.out k hlt
      rw [Hn.out] at hx0 hy1
      simp only at hx0 hy1
      have hba : Below w.heap.size w (wr.alloc (.cells #[.int .i64 x, .int .i64 y] 99)) := hb.alloc hb.size _
      have H0a : Hid _ := row_alloc (ob := .cells #[.int .i64 x, .int .i64 y] 99) H0.out
      have H1a : Hid _ := row_alloc (ob := .cells #[.int .i64 x, .int .i64 y] 99) H1.out
      have HT : Hid _ := marksF_take rs k hlt x y Hn.out
      generalize marksF (rs.take k) = F at H1a HT
      go_wp2_with (first | (refine wpList_load_row rfl 141 (.tmp 3) rfl (w.heap.size + 1) rfl 141 _ (0, 0) _ H1a.out Tryz.underlying141 rfl (by rw [marksArr_size]; exact hzi.out) ?_) | (go_at_call 67; refine (with_ok _ _ _ _ hx0 hy1).mono ?_; rintro e w2 ⟨rfl, hb2⟩; have H0b : Hid _ := (hb2.block w.heap.size (by simp; omega)).trans H0a.out; have H1b : Hid _ := (hb2.block (w.heap.size + 1) (by simp; omega)).trans H1a.out; have hbb := below_step hba hba.size hb2; have hsz2 := hb2.size) | (refine wpList_store_row rfl 141 (.tmp 3) _ rfl (w.heap.size + 1) _ rfl rfl 141 _ H1b.out (by rw [marksArr_size]; exact hzi.out) (by rw [marksArr_size, marksArr_size]) (marksArr_one _) ?_))
      go_roundw
      case rel => exact ⟨k + 1, by omega, by go_num, Below.setRow hbb (by omega) _, by show _ = _; rw [setRow_other _ _ _ _ (by omega)]; exact H0b.out, by show _ = _; rw [setRow_heap _ _ _ _ _ _ H1b.out, HT.out], by simp at hsz2 ⊢; omega⟩
      case measure => simp [intOf]; omega
    · have hkk : rs.take k = rs := List.take_of_length_le (by omega)
      rw [hkk] at H1
      go_wp2_with (first | (refine wpList_load_row rfl 141 (.tmp 3) rfl (w.heap.size + 1) rfl 141 _ (0, 0) _ H1.out Tryz.underlying141 rfl (by rw [marksArr_size]; exact hzi.out) ?_) | (refine wpList_store_row rfl 141 (.tmp 2) _ rfl w.heap.size _ rfl rfl 141 _ H0.out (by rw [marksArr_size]; exact hzi.out) (by rw [marksArr_size, marksArr_size]) (marksArr_one _) ?_))
      exact bodyPost_ret (v := .agg (marksArr (marksF rs))) (results_cell_row Tryz.results91 _ _ w.heap.size 141 _ (0, 0) _ rfl (setRow_heap _ _ _ _ _ _ H0.out) Tryz.underlying141 rfl (by rw [marksArr_size]; exact hzi.out)) rfl ⟨rfl, Below.setRow hb (by omega) _⟩
end Go.Proofs.YtgbdlgogccgciaaGreatDoor
