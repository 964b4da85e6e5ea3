import Derived.Test.YthgaeaihfbiolaaDoorBitA
namespace Go.Proofs.YthgaeaihfbiolaaDoor
open Go.RowKit

/- SETS OF POSITIONS: rows of words. -/
structure PosAt (w : World) (nw g : Nat) (T : Nat → Nat) : Prop where
  row : w.heap[g]? = some (.cells (wdRow nw T) 116 (0, 0))
  lt : ∀ i, T i < 18446744073709551616
theorem PosAt.glt {w : World} {nw g : Nat} {T : Nat → Nat} (h : PosAt w nw g T) : g < w.heap.size := (Array.getElem?_eq_some_iff.1 h.row).1
theorem PosAt.below {w w' : World} {nw g : Nat} {T : Nat → Nat} (h : PosAt w nw g T) (hb : Below w.heap.size w w') : PosAt w' nw g T := ⟨(hb.block g h.glt).trans h.row, h.lt⟩
theorem PosAt.grown {w w' : World} {nw g : Nat} {o : Option Nat} {T : Nat → Nat} (h : PosAt w nw g T) (hg : w.grownBy w' o) (hne : some g ≠ o) : PosAt w' nw g T := ⟨(hg.block g h.glt hne).trans h.row, h.lt⟩
theorem PosAt.cell {w : World} {nw g : Nat} {T : Nat → Nat} (h : PosAt w nw g T) {i : Nat} (hi : i < nw) : w.cell? ⟨g, i, none⟩ = some (.int .u64 (T i : Int)) := by rw [cell_of_row _ _ _ _ _ _ h.row, wdRow_get _ _ hi]
theorem wdRow_congr {n : Nat} {T U : Nat → Nat} (h : ∀ i, i < n → T i = U i) : wdRow n T = wdRow n U := by
  unfold wdRow
  rw [List.map_congr_left fun i hi => by rw [h i (by simpa using hi)]]
def orT (T U : Nat → Nat) : Nat → Nat := fun i => T i ||| U i
def orK (T U : Nat → Nat) (k : Nat) : Nat → Nat := fun i => if i < k then T i ||| U i else T i
theorem orT_lt {T U : Nat → Nat} (hT : ∀ i, T i < 18446744073709551616) (hU : ∀ i, U i < 18446744073709551616) : ∀ i, orT T U i < 18446744073709551616 := fun i => Nat.or_lt_two_pow (n := 64) (hT i) (hU i)
theorem orT_bit (T U : Nat → Nat) (p : Nat) : bitAt (orT T U) p = (bitAt T p || bitAt U p) := by simp [bitAt, orT]
theorem orK_put (n : Nat) (T U : Nat → Nat) (k : Nat) : wdRow n (fun j => if j = k then T k ||| U k else orK T U k j) = wdRow n (orK T U (k + 1)) := wdRow_congr fun i _ => by
  unfold orK
  by_cases e : i = k
  · subst e; rw [if_pos rfl, if_pos (by omega)]
  · rw [if_neg e]
    by_cases h : i < k
    · rw [if_pos h, if_pos (by omega)]
    · rw [if_neg h, if_neg (by omega)]

set_option maxRecDepth 100000 in
set_option maxHeartbeats 1000000 in
theorem join_ok (nw g g2 cap cap2 : Nat) (T U : Nat → Nat) (w : World) (hT : PosAt w nw g T) (hU : PosAt w nw g2 U) (hne : g ≠ g2) (hnw : nw ≤ 1000) :
    Calls Tryd.prog 36 #[.slice (some ⟨g, 0, none⟩) nw cap, .slice (some ⟨g2, 0, none⟩) nw cap2] w fun e w' => e = .returned (.tuple #[]) ∧ PosAt w' nw g (orT T U) ∧ w.grownBy w' (some g) := by
  go_enter Tryd.func36, Tryd.ntmps36
  go_wp2
  go_loopw [8] (fun i wr => ∃ k : Nat, k ≤ nw ∧ i = .int .i64 k ∧ wr.heap[g]? = some (.cells (wdRow nw (orK T U k)) 116 (0, 0)) ∧ w.grownBy wr (some g))
    (fun i _ => nw - (intOf i).toNat)
  case atStart => exact ⟨0, Nat.zero_le _, rfl, by rw [hT.row]; rfl, World.grownBy.refl _ _⟩
  case round =>
    obtain ⟨k, hk, rfl, hr, hg⟩ := hrel
    by_cases hlt : k < nw
    · have c0 := (hU.grown hg (by simpa using hne.symm)).cell hlt
      have c1 : wr.cell? ⟨g, k, none⟩ = some (.int .u64 (T k : Int)) := by
        rw [cell_of_row _ _ _ _ _ _ hr, wdRow_get _ _ hlt]
        unfold orK
        rw [if_neg (by omega)]
      have f1 := frozen_of_row _ _ k _ _ hr
      have HN : Hid ((wr.setCell ⟨g, k, none⟩ (.int .u64 ((T k ||| U k : Nat) : Int))).heap[g]? = some (.cells (wdRow nw (orK T U (k + 1))) 116 (0, 0))) := by
        have := heap_setCell_same wr g k _ _ (.int .u64 ((T k ||| U k : Nat) : Int)) hr
        rw [wdRow_set, orK_put] at this
        exact this
      have hv := or_u64 _ _ (hT.lt k) (hU.lt k)
      rw [← hv] at HN
      clear hv hr
      have hi0 : (0 : Int) ≤ (k : Int) := by omega
      have hi1 : (k : Int) < (nw : Int) := by omega
      generalize T k = a at *
      generalize U k = b at *
      go_wp2
      go_roundw
      case rel => exact ⟨k + 1, by omega, by go_num, HN.out, hg.trans (grown_put _ _ _ _)⟩
      case measure => simp [intOf]; omega
    · have hkk : k = nw := by omega
      subst hkk
      go_wp2
      go_end0
      exact ⟨rfl, ⟨by rw [hr, wdRow_congr (U := orT T U) fun i hi => by unfold orK; rw [if_pos hi]; rfl], orT_lt hT.lt hU.lt⟩, hg⟩

def meetB (nw : Nat) (T U : Nat → Nat) : Bool := (List.range nw).any fun i => !(T i &&& U i == 0)
theorem meetB_succ (k : Nat) (T U : Nat → Nat) : meetB (k + 1) T U = (meetB k T U || !(T k &&& U k == 0)) := by simp [meetB, List.range_succ]
theorem meetB_iff (nw : Nat) (T U : Nat → Nat) (hT : ∀ i, T i < 18446744073709551616) : meetB nw T U = true ↔ ∃ p, p < 64 * nw ∧ bitAt T p = true ∧ bitAt U p = true := by
  constructor
  · intro h
    obtain ⟨i, hi, h2⟩ := List.any_eq_true.1 h
    have hi' : i < nw := by simpa using hi
    have h3 : T i &&& U i ≠ 0 := by simpa using h2
    obtain ⟨j, hj⟩ := Nat.exists_testBit_of_ne_zero h3
    rw [Nat.testBit_and, Bool.and_eq_true] at hj
    have hj64 : j < 64 := by
      rcases Nat.lt_or_ge j 64 with h | h
      · exact h
      · have := Nat.testBit_lt_two_pow (x := T i) (i := j) (Nat.lt_of_lt_of_le (hT i) (by rw [show (18446744073709551616 : Nat) = 2 ^ 64 by decide]; exact Nat.pow_le_pow_right (by omega) h))
        rw [this] at hj; cases hj.1
    refine ⟨i * 64 + j, by omega, ?_, ?_⟩
    · unfold bitAt; rw [show (i * 64 + j) / 64 = i by omega, show (i * 64 + j) % 64 = j by omega]; exact hj.1
    · unfold bitAt; rw [show (i * 64 + j) / 64 = i by omega, show (i * 64 + j) % 64 = j by omega]; exact hj.2
  · rintro ⟨p, hp, h1, h2⟩
    refine List.any_eq_true.2 ⟨p / 64, by simp; omega, ?_⟩
    have h3 : (T (p / 64) &&& U (p / 64)).testBit (p % 64) = true := by rw [Nat.testBit_and]; unfold bitAt at h1 h2; rw [h1, h2]; rfl
    have : ¬(T (p / 64) &&& U (p / 64)) = 0 := fun e => by rw [e] at h3; simp at h3
    simpa using this

set_option maxRecDepth 100000 in
set_option maxHeartbeats 1000000 in
theorem meets_ok (nw g g2 cap cap2 : Nat) (T U : Nat → Nat) (w : World) (hT : PosAt w nw g T) (hU : PosAt w nw g2 U) (hnw : nw ≤ 1000) :
    Calls Tryd.prog 43 #[.slice (some ⟨g, 0, none⟩) nw cap, .slice (some ⟨g2, 0, none⟩) nw cap2] w fun e w' => e = .returned (.bool (meetB nw T U)) ∧ Below w.heap.size w w' := by
  go_enter Tryd.func43, Tryd.ntmps43
  go_wp2
  go_loopw [9] (fun i wr => ∃ k : Nat, k ≤ nw ∧ i = .int .i64 k ∧ Below w.heap.size w wr ∧ Hid (meetB k T U = false))
    (fun i _ => nw - (intOf i).toNat)
  case atStart => exact ⟨0, Nat.zero_le _, rfl, Below.refl _ _, rfl⟩
  case round =>
    obtain ⟨k, hk, rfl, hb, HF⟩ := hrel
    by_cases hlt : k < nw
    · have c0 := (hT.below hb).cell hlt
      have c1 := (hU.below hb).cell hlt
      have hv := and_u64 _ _ (hT.lt k) (hU.lt k)
      have Ho : Hid (meetB (k + 1) T U = !(T k &&& U k == 0)) := by show _ = _; rw [meetB_succ, HF.out, Bool.false_or]
      have Hm : Hid (meetB (k + 1) T U = true → meetB nw T U = true) := by
        intro h
        unfold meetB at h ⊢
        obtain ⟨i, hi, h2⟩ := List.any_eq_true.1 h
        exact List.any_eq_true.2 ⟨i, by simp at hi ⊢; omega, h2⟩
      have hi0 : (0 : Int) ≤ (k : Int) := by omega
      have hi1 : (k : Int) < (nw : Int) := by omega
      generalize T k = a at *
      generalize U k = b at *
      generalize hab : a &&& b = ab at *
      have HV : Hid _ := hv
      clear hv hab
      by_cases h0 : ab = 0
      · have hz : (bits BinOp.and IntKind.u64 (a : Int) (b : Int) != 0) = false := by rw [HV.out, h0]; rfl
        go_wp2
        go_roundw
        case rel => exact ⟨k + 1, by omega, by go_num, hb, by show _ = _; rw [Ho.out, h0]; rfl⟩
        case measure => simp [intOf]; omega
      · have hz : (bits BinOp.and IntKind.u64 (a : Int) (b : Int) != 0) = true := by rw [HV.out]; simp; omega
        go_wp2
        go_ret
        exact ⟨ret_bool (Hm.out (by rw [Ho.out]; simp; omega)).symm, hb⟩
    · have hkk : k = nw := by omega
      subst hkk
      go_wp2
      go_ret
      exact ⟨ret_bool HF.out.symm, hb⟩

set_option maxRecDepth 100000 in
set_option maxHeartbeats 1000000 in
theorem isEmpty_ok (nw g cap : Nat) (T : Nat → Nat) (w : World) (hT : PosAt w nw g T) (hnw : nw ≤ 1000) :
    Calls Tryd.prog 41 #[.slice (some ⟨g, 0, none⟩) nw cap] w fun e w' => e = .returned (.bool (!meetB nw T T)) ∧ Below w.heap.size w w' := by
  have hm := meets_ok nw g g cap cap T T w hT hT hnw
  go_enter Tryd.func41, Tryd.ntmps41
  go_wp2_with (go_at_call 43; refine hm.mono ?_; rintro e w2 ⟨rfl, hb2⟩)
  go_ret
  exact ⟨rfl, hb2⟩

def zeroT : Nat → Nat := fun _ => 0
theorem zeroT_bit (p : Nat) : bitAt zeroT p = false := by simp [bitAt, zeroT]
theorem made_wordsP (n : Nat) : (madeCells (Value.int .u64 0).cells (n * 1)).toList.toArray = wdRow n zeroT := by
  apply Array.ext_getElem?
  intro i
  by_cases h : i < n
  · simp [madeCells, wdRow, zeroT, Value.cells, Nat.mod_one, h]
  · simp [madeCells, wdRow, h]
theorem Tryd.infoU64 : (Tryd.prog.info? 116).map (fun i => (i.zero, i.size, i.bytes)) = some (some (.int .u64 0), 1, 8) := by kernel_rfl

theorem own_fullP {w : World} {base : Nat} {e : TypeId} {g n : Nat} {xs : List Value} (h : w.ownsRow base e 1 (.slice (some ⟨g, 0, none⟩) n n) n xs) : w.heap[g]? = some (.cells xs.toArray e (0, 0)) := by
  rcases h.2 with ⟨h, _⟩ | ⟨g', cap, cr, h, _, hrow, _, _, hsz, htk⟩
  · cases h
  · cases h
    rw [hrow]
    congr 2
    apply Array.ext'
    rw [List.take_of_length_le (by simp [hsz])] at htk
    rw [htk]
/-- The block of the tracks. -/
def TrBox (w : World) (bt nw : Nat) (sv fv : Value) : Prop := w.heap[bt]? = some (.cells #[.int .i64 nw, sv, fv] 78 (0, 0))

set_option maxRecDepth 100000 in
set_option maxHeartbeats 1000000 in
theorem none_ok (nw bt : Nat) (sv fv : Value) (w : World) (hb : TrBox w bt nw sv fv) (hnw : nw ≤ 1000) :
    Calls Tryd.prog 35 #[.pointer (some ⟨bt, 0, none⟩)] w fun e w' => e = .returned (.slice (some ⟨w.heap.size, 0, none⟩) nw nw) ∧ PosAt w' nw w.heap.size zeroT ∧ w.grownBy w' none := by
  obtain ⟨i0, hi, hz0, hz1, hz2⟩ := info_parts Tryd.infoU64
  have c0 : w.cell? ⟨bt, 0, none⟩ = some (.int .i64 nw) := (cell_of_row _ _ _ _ _ _ hb : w.cell? ⟨bt, 0, none⟩ = _)
  go_enter Tryd.func35, Tryd.ntmps35
  go_wp2_with (refine wpList_make_full _ rfl _ _ 48 rfl w.heap.size 116 i0 _ 1 Tryd.underlying48 hi hz0 hz1 _ _ _ _ nw rfl rfl rfl rfl (by rw [hz2]; omega) (by unfold maxLen; omega) (Nat.le_refl _) ?_; intro w1 hown hgrow)
  go_ret
  refine ⟨rfl, ⟨?_, fun _ => by simp [zeroT]⟩, hgrow⟩
  rw [own_fullP hown, made_wordsP]
end Go.Proofs.YthgaeaihfbiolaaDoor
