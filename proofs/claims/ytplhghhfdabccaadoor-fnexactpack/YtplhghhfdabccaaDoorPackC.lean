import Derived.Test.YtplhghhfdabccaaDoorPackS
import Derived.Test.YtplhghhfdabccaaDoorRow
import Derived.Test.YtplhghhfdabccaaDoorStep
namespace Go.Proofs.YtplhghhfdabccaaDoor
open Go.RowKit
attribute [local go_sem ↓] Go.wp_at_zero Go.wp_at_succ

/- COUNTING: a row of numbers, one for each state. -/
def fnRow (n : Nat) (f : Nat → Int) : Array Value := ((List.range n).map fun i => Value.int .i64 (f i)).toArray
theorem fnRow_get (n : Nat) (f : Nat → Int) {i : Nat} (h : i < n) : (fnRow n f)[i]? = some (.int .i64 (f i)) := by
  simp [fnRow, h]
theorem fnRow_set (n : Nat) (f : Nat → Int) (i : Nat) (x : Int) : (fnRow n f).setIfInBounds i (.int .i64 x) = fnRow n (fun j => if j = i then x else f j) := by
  apply Array.ext'
  unfold fnRow
  simp only [List.setIfInBounds_toArray]
  apply List.ext_getElem
  · simp
  · intro j h1 h2
    simp only [List.getElem_set, List.getElem_map, List.getElem_range]
    by_cases e : i = j
    · subst e; simp
    · rw [if_neg e, if_neg (fun h => e h.symm)]
theorem fnRow_congr {n : Nat} {f g : Nat → Int} (h : ∀ i, i < n → f i = g i) : fnRow n f = fnRow n g := by
  unfold fnRow
  congr 1
  apply List.map_congr_left
  intro i hi
  rw [h i (List.mem_range.1 hi)]
structure CntSt (w : World) (g n : Nat) (f : Nat → Int) (W : World) : Prop where
  os : W.os = w.os
  tape : W.tape = w.tape
  output : W.output = w.output
  size : w.heap.size ≤ W.heap.size
  row : W.heap[g]? = some (.cells (fnRow n f) 3 (0, 0))
  rest : ∀ k, k ≠ g → k < w.heap.size → W.heap[k]? = w.heap[k]?
theorem CntSt.set {w W : World} {g n : Nat} {f : Nat → Int} (h : CntSt w g n f W) (i : Nat) (x : Int) : CntSt w g n (fun j => if j = i then x else f j) (W.setCell ⟨g, i, none⟩ (.int .i64 x)) :=
  ⟨h.os, h.tape, h.output, by simpa [World.setCell] using h.size, by rw [← fnRow_set]; exact heap_setCell_same _ _ _ _ _ _ h.row, fun k hk hl => (heap_setCell_other _ _ _ _ hk).trans (h.rest k hk hl)⟩
theorem CntSt.drewN {w W : World} {g n : Nat} {f : Nat → Int} (h : CntSt w g n f W) (m : Nat) : CntSt w g n f (W.drewN m) := by
  have hb := below_drewN (Below.refl W.heap.size W) m
  exact ⟨hb.os.trans h.os, hb.tape.trans h.tape, hb.output.trans h.output, Nat.le_trans h.size hb.size, (hb.block g (row_lt h.row)).trans h.row, fun k hk hl => (hb.block k (Nat.lt_of_lt_of_le hl h.size)).trans (h.rest k hk hl)⟩
theorem CntSt.congr {w W : World} {g n : Nat} {f f' : Nat → Int} (h : CntSt w g n f W) (hf : ∀ i, i < n → f i = f' i) : CntSt w g n f' W := ⟨h.os, h.tape, h.output, h.size, by rw [← fnRow_congr hf]; exact h.row, h.rest⟩
theorem CntSt.cell {w W : World} {g n : Nat} {f : Nat → Int} (h : CntSt w g n f W) {b o : Nat} (hb : b ≠ g) (hl : b < w.heap.size) : W.cell? ⟨b, o, none⟩ = w.cell? ⟨b, o, none⟩ := World.cell?_of_block (h.rest b hb hl)
theorem CntSt.at {w W : World} {g n : Nat} {f : Nat → Int} (h : CntSt w g n f W) {i : Nat} (hi : i < n) : W.cell? ⟨g, i, none⟩ = some (.int .i64 (f i)) := by
  rw [cell_of_row _ _ _ _ _ _ h.row, fnRow_get n f hi]

def cnt0 (row : List Int) (k : Nat) (i : Nat) : Int := ((row.take k).count (i : Int) : Nat)
/-- The best of the first k, by how often they stand among the first k. -/
def BestInc (row : List Int) (k : Nat) (b : Int) : Prop := (k = 0 ∧ b = row.getD 0 0) ∨ (b ∈ row.take k ∧ ∀ y ∈ row.take k, (row.take k).count y < (row.take k).count b ∨ ((row.take k).count y = (row.take k).count b ∧ b ≤ y))
theorem inc_step {row : List Int} {k : Nat} (hk : k < row.length) {b x : Int} (hx : row.getD k 0 = x) (h : BestInc row k b) :
    ((row.take (k + 1)).count b < (row.take (k + 1)).count x → BestInc row (k + 1) x) ∧ ((row.take (k + 1)).count x = (row.take (k + 1)).count b → x < b → BestInc row (k + 1) x) ∧ (¬(row.take (k + 1)).count b < (row.take (k + 1)).count x → ¬((row.take (k + 1)).count x = (row.take (k + 1)).count b ∧ x < b) → BestInc row (k + 1) b) := by
  have e : row[k] = x := by rw [← hx]; simp [List.getD, hk]
  have htk : row.take (k + 1) = row.take k ++ [x] := by rw [List.take_succ_eq_append_getElem hk, e]
  have hin : x ∈ row.take (k + 1) := by rw [htk]; simp
  have hc : ∀ y, (row.take (k + 1)).count y = (row.take k).count y + if y = x then 1 else 0 := fun y => count_take row y k hk x hx
  have hpos : 0 < (row.take (k + 1)).count x := List.count_pos_iff.2 hin
  rcases h with ⟨h0, hb⟩ | ⟨hb, hall⟩
  · have hbx : b = x := by rw [hb, ← hx, h0]
    subst hbx
    have hnil : row.take (k + 1) = [b] := by rw [htk, h0]; rfl
    have this : BestInc row (k + 1) b := .inr ⟨hin, fun y hy => by rw [hnil] at hy; rw [List.mem_singleton.1 hy]; exact .inr ⟨rfl, Int.le_refl _⟩⟩
    exact ⟨fun _ => this, fun _ _ => this, fun _ _ => this⟩
  · have hbin : b ∈ row.take (k + 1) := by rw [htk]; exact List.mem_append_left _ hb
    refine ⟨fun h1 => .inr ⟨hin, fun y hy => ?_⟩, fun h1 h2 => .inr ⟨hin, fun y hy => ?_⟩, fun h1 h2 => .inr ⟨hbin, fun y hy => ?_⟩⟩
    all_goals
      have key : ∀ y, y ∈ row.take (k + 1) → y = x ∨ ((row.take (k + 1)).count y = (row.take k).count y ∧ ((row.take k).count y < (row.take k).count b ∨ ((row.take k).count y = (row.take k).count b ∧ b ≤ y))) := fun y hy => by
        by_cases e1 : y = x
        · exact .inl e1
        · right
          rw [htk] at hy
          rcases List.mem_append.1 hy with h3 | h3
          · exact ⟨by rw [hc y, if_neg e1]; rfl, hall y h3⟩
          · exact absurd (List.mem_singleton.1 h3) e1
      have q3 : (row.take k).count b ≤ (row.take (k + 1)).count b := by rw [hc b]; omega
      rcases key y hy with rfl | ⟨k1, k2⟩
      · omega
      · omega
theorem inc_end {row : List Int} {b : Int} (h0 : 0 < row.length) (h : BestInc row row.length b) : bestF row = b := by
  rcases h with ⟨h1, _⟩ | ⟨hb, hall⟩
  · omega
  · rw [List.take_length] at hb hall
    exact bestF_eq (isBest_iff.2 ⟨hb, hall⟩)

theorem cnt_succ {row : List Int} {k : Nat} (hk : k < row.length) {x : Nat} (hx : row.getD k 0 = (x : Int)) (i : Nat) : (if i = x then cnt0 row k x + 1 else cnt0 row k i) = cnt0 row (k + 1) i := by
  unfold cnt0
  have h := count_take row (i : Int) k hk _ hx
  rw [h]
  by_cases e : i = x
  · subst e; simp
  · rw [if_neg e, if_neg (fun h => e (by omega))]; simp
def clr0 (row : List Int) (k : Nat) (i : Nat) : Int := if (i : Int) ∈ row.take k then 0 else cnt0 row row.length i
theorem clr_succ {row : List Int} {k : Nat} (hk : k < row.length) {x : Nat} (hx : row.getD k 0 = (x : Int)) (i : Nat) : (if i = x then 0 else clr0 row k i) = clr0 row (k + 1) i := by
  have e : row[k] = (x : Int) := by rw [← hx]; simp [List.getD, hk]
  unfold clr0
  rw [List.take_succ_eq_append_getElem hk, e]
  by_cases e1 : i = x
  · subst e1; simp
  · have : ¬(i : Int) = (x : Int) := by omega
    simp only [if_neg e1, List.mem_append, List.mem_singleton, this, or_false]
theorem clr_end (row : List Int) (i : Nat) : clr0 row row.length i = 0 := by
  unfold clr0 cnt0
  rw [List.take_length]
  split
  · rfl
  · rename_i h
    rw [List.count_eq_zero.2 h]; rfl
theorem clr_zero (row : List Int) (i : Nat) : clr0 row 0 i = cnt0 row row.length i := by simp [clr0]

set_option maxRecDepth 100000 in
set_option maxHeartbeats 2000000 in
theorem mostFrequent_ok (b o rcap : Nat) (row : List Int) (g n cap : Nat) (w : World) (hbg : b ≠ g) (hbl : b < w.heap.size) (Hc : Hid (∀ i, i < row.length → w.cell? ⟨b, o + i, none⟩ = some (.int .i64 (row.getD i 0)))) (hrow : w.heap[g]? = some (.cells (fnRow n (fun _ => 0)) 3 (0, 0))) (h0 : 0 < row.length) (h1 : row.length ≤ 256) (hr : Hid (∀ x ∈ row, 0 ≤ x ∧ x < (n : Int))) :
    Calls Tryd.prog 21 #[.slice (some ⟨b, o, none⟩) row.length rcap, .slice (some ⟨g, 0, none⟩) n cap] w fun e w' => e = .returned (.int .i64 (bestF row)) ∧ Below w.heap.size w w' := by
  have Hx : Hid (∀ i, i < row.length → ∃ x : Nat, row.getD i 0 = (x : Int) ∧ x < n) := fun i hi => by
    have := hr.out (row.getD i 0) (by simp [List.getD, hi])
    exact ⟨(row.getD i 0).toNat, by omega, by omega⟩
  clear hr
  have S0 : CntSt w g n (cnt0 row 0) w := ⟨rfl, rfl, rfl, Nat.le_refl _, by rw [show fnRow n (cnt0 row 0) = fnRow n (fun _ => 0) from fnRow_congr fun i _ => by simp [cnt0]]; exact hrow, fun _ _ _ => rfl⟩
  obtain ⟨x0, hx0, hx0n⟩ := Hx.out 0 h0
  have c00 : w.cell? ⟨b, o, none⟩ = some (.int .i64 (x0 : Int)) := by have := Hc.out 0 h0; rw [hx0] at this; simpa using this
  have HB0 : Hid (BestInc row 0 (x0 : Int)) := .inl ⟨rfl, hx0.symm⟩
  have Hrow : Hid (w.heap[g]? = some (.cells (fnRow n (fun _ => 0)) 3 (0, 0))) := hrow
  clear hx0 hrow
  go_enter Tryd.func21, Tryd.ntmps21
  go_wp2
  go_loopw [5, 15] (fun bv i wr => ∃ (k bb : Nat), k ≤ row.length ∧ i = .int .i64 k ∧ bv = .int .i64 (bb : Int) ∧ bb < n ∧ Hid (BestInc row k (bb : Int)) ∧ CntSt w g n (cnt0 row k) wr)
    (fun _ i _ => row.length - (intOf i).toNat)
  case atStart => exact ⟨0, x0, by omega, rfl, rfl, hx0n, HB0, S0⟩
  case round =>
    clear S0 HB0 c00
    obtain ⟨k, bb, hk, rfl, rfl, hbn, HB, S⟩ := hrel
    by_cases hlt : k < row.length
    · obtain ⟨x, hx, hxn⟩ := Hx.out k hlt
      have c0 : wr.cell? ⟨b, o + k, none⟩ = some (.int .i64 (x : Int)) := by rw [S.cell hbg hbl, Hc.out k hlt, hx]
      have HS : Hid _ := inc_step hlt hx HB.out
      have HT : Hid (∀ i, (if i = x then cnt0 row k x + 1 else cnt0 row k i) = cnt0 row (k + 1) i) := cnt_succ hlt hx
      have d0 := S.at hxn
      have f0 := frozen_of_row _ _ x _ _ S.row
      have hcb : ∀ i, cnt0 row k i ≤ 256 := fun i => by
        unfold cnt0
        have := List.count_le_length (a := (i : Int)) (l := row.take k)
        rw [List.length_take] at this
        omega
      have hcx := hcb x
      have hcx0 : 0 ≤ cnt0 row k x := by unfold cnt0; omega
      have SN := (S.set x (cnt0 row k x + 1)).congr (fun i _ => HT.out i)
      have hxn' : (x : Int) < (n : Int) := by omega
      have hbn' : (bb : Int) < (n : Int) := by omega
      clear hx hcb
      go_upto_region 6 with fail
      generalize hWN : wr.setCell ⟨g, x, none⟩ (.int .i64 (cnt0 row k x + 1)) = WN at *
      clear hWN c0 d0 f0 S hcx hcx0 HT
      have d1 := SN.at hxn
      have d2 := SN.at hbn
      obtain ⟨s1, s2, s3⟩ := HS.out
      have S1 : Hid (cnt0 row (k + 1) bb < cnt0 row (k + 1) x → BestInc row (k + 1) (x : Int)) := fun h => s1 (by unfold cnt0 at h; omega)
      have S2 : Hid (cnt0 row (k + 1) x = cnt0 row (k + 1) bb → (x : Int) < (bb : Int) → BestInc row (k + 1) (x : Int)) := fun h => s2 (by unfold cnt0 at h; omega)
      have S3 : Hid (¬cnt0 row (k + 1) bb < cnt0 row (k + 1) x → ¬(cnt0 row (k + 1) x = cnt0 row (k + 1) bb ∧ (x : Int) < (bb : Int)) → BestInc row (k + 1) (bb : Int)) := fun h h2 => s3 (by unfold cnt0 at h; omega) (fun h3 => h2 ⟨by unfold cnt0; omega, h3.2⟩)
      clear s1 s2 s3 HS HB
      have hi1 : (0 : Int) ≤ (x : Int) := by omega
      have hi2 : (0 : Int) ≤ (bb : Int) := by omega
      have HSN : Hid (∀ m, CntSt w g n (cnt0 row (k + 1)) (WN.drewN m)) := fun m => SN.drewN m
      generalize cnt0 row (k + 1) x = cx at *
      generalize cnt0 row (k + 1) bb = cb at *
      by_cases g1 : cb < cx
      · have g1' : decide (cb < cx) = true := by simp [g1]
        have HR : Hid (BestInc row (k + 1) (x : Int)) := S1.out g1
        go_quiet (fail)
        go_wp2
        go_roundw
        case rel => exact ⟨k + 1, x, by omega, by go_num, rfl, hxn, HR.out, HSN.out _⟩
        case measure => simp [intOf]; omega
      have g1' : decide (cb < cx) = false := by simp; omega
      by_cases g2 : cx = cb
      · have g2' : (cx == cb) = true := by simp [g2]
        by_cases g3 : (x : Int) < (bb : Int)
        · have g3' : decide ((x : Int) < (bb : Int)) = true := by simp only [g3, decide_true]
          have HR : Hid (BestInc row (k + 1) (x : Int)) := S2.out g2 g3
          clear g2 S1 S2 S3
          go_quiet (fail)
          go_wp2
          go_roundw
          case rel => exact ⟨k + 1, x, by omega, by go_num, rfl, hxn, HR.out, HSN.out _⟩
          case measure => simp [intOf]; omega
        · have g3' : decide ((x : Int) < (bb : Int)) = false := by simp only [g3, decide_false]
          have HR : Hid (BestInc row (k + 1) (bb : Int)) := S3.out g1 (fun h => g3 h.2)
          clear g2 S1 S2 S3
          go_quiet (fail)
          go_wp2
          go_roundw
          case rel => exact ⟨k + 1, bb, by omega, by go_num, rfl, hbn, HR.out, HSN.out _⟩
          case measure => simp [intOf]; omega
      · have g2' : (cx == cb) = false := by simp [g2]
        have HR : Hid (BestInc row (k + 1) (bb : Int)) := S3.out g1 (fun h => g2 h.1)
        clear g2 S1 S2 S3
        go_quiet (fail)
        go_wp2
        go_roundw
        case rel => exact ⟨k + 1, bb, by omega, by go_num, rfl, hbn, HR.out, HSN.out _⟩
        case measure => simp [intOf]; omega
    · have hkk : k = row.length := by omega
      rw [hkk] at HB S
      have HR : Hid (bestF row = (bb : Int)) := inc_end h0 HB.out
      have S2 : CntSt w g n (clr0 row 0) wr := S.congr fun i _ => (clr_zero row i).symm
      clear hkk HB S
      go_wp2
      go_loopw [54] (fun i wr => ∃ k : Nat, k ≤ row.length ∧ i = .int .i64 k ∧ CntSt w g n (clr0 row k) wr)
        (fun i _ => row.length - (intOf i).toNat)
      case atStart => exact ⟨0, by omega, rfl, S2⟩
      case round =>
        clear S2
        obtain ⟨j, hj, rfl, S⟩ := hrel
        by_cases hjl : j < row.length
        · obtain ⟨x, hx, hxn⟩ := Hx.out j hjl
          have c0 : wr.cell? ⟨b, o + j, none⟩ = some (.int .i64 (x : Int)) := by rw [S.cell hbg hbl, Hc.out j hjl, hx]
          have d0 := S.at hxn
          have f0 := frozen_of_row _ _ x _ _ S.row
          have SN := (S.set x 0).congr (fun i _ => clr_succ hjl hx i)
          have hxn' : (x : Int) < (n : Int) := by omega
          clear hx
          go_wp2
          go_roundw
          case rel => exact ⟨j + 1, by omega, by go_num, SN⟩
          case measure => simp [intOf]; omega
        · have hjj : j = row.length := by omega
          rw [hjj] at S
          have S3 := S.congr fun i _ => clr_end row i
          have HB : Hid (Below w.heap.size w wr) := ⟨S3.os, S3.tape, S3.output, S3.size, fun q hq => by
            by_cases e : q = g
            · rw [e, Hrow.out]; exact S3.row
            · exact S3.rest q e hq⟩
          clear hjj S S3
          go_wp2
          go_ret
          exact ⟨ret_int HR.out.symm, HB.out⟩
end Go.Proofs.YtplhghhfdabccaaDoor
