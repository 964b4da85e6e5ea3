import Derived.Test.YtipndbhedaknnaaDat
import Derived.Test.YtipndbhedaknnaaBtw
import Derived.Test.YtipndbhedaknnaaRow
import Derived.Deep.RegionHeld3
import Derived.Deep.DrawnRows
import Derived.Deep.QuietTactic
import Derived.BigQuiet
namespace Go.Proofs.Ytipndbhedaknnaa
open Go.RowKit
attribute [local go_sem ↓] Go.wp_at_zero Go.wp_at_succ

/- SLICES OF PAIRS: two cells each, as the ranges of a node. -/
set_option maxHeartbeats 400000 in
theorem szPairS_ok (a : Option Addr) (rs : List (Int × Int)) (cap : Nat) (left : Int) (w : World) (h0 : 0 ≤ left) (h1 : left ≤ 1048576) (h2 : rs.length ≤ 9223372036854775807) :
    Calls Try.prog 4 #[.slice a rs.length cap, .int .i64 left] w fun e w' => e = .returned (.int .i64 (szRangesF rs left)) ∧ w' = w := by
  by_cases hle : left - rs.length < 0
  all_goals
    go_enter Try.func4, Try.ntmps4
    go_wp2
    go_ret
    exact ⟨ret_int (by unfold szRangesF; split <;> omega), rfl⟩

theorem Try.infoPair : (Try.prog.info? 32).map (fun i => (i.zero, i.size, i.bytes)) = some (some (.agg #[.int .i64 0, .int .i64 0]), 2, 16) := by kernel_rfl

set_option maxHeartbeats 400000 in
theorem toPair_ok (lo hi : Int) (w : World) :
    Calls Try.prog 11 #[.agg #[.int .i64 lo, .int .i64 hi]] w fun e w' => e = .returned (.agg #[.int .i64 lo, .int .i64 hi]) ∧ Below w.heap.size w w' := by
  go_enter Try.func11, Try.ntmps11
  go_wp2
  exact bodyPost_ret (v := .agg #[.int .i64 lo, .int .i64 hi]) (by simp [results, Try.results11, go_sem]) rfl ⟨rfl, (((Below.refl _ _).alloc (Nat.le_refl _) _).alloc (by simp) _).alloc (by simp; omega) _⟩

set_option maxRecDepth 100000 in
set_option maxHeartbeats 400000 in
theorem toPairS_ok {lo : Nat} (v : Value) (rs : List (Int × Int)) (w : World) (hs : RangesAt lo w v rs) (hn : rs.length ≤ 1048576) :
    Calls Try.prog 6 #[v] w fun e w' => ∃ v', e = .returned v' ∧ RangesAt w.heap.size w' v' rs ∧ Below w.heap.size w w' := by
  obtain ⟨ao, cap, rfl, hm, hc⟩ := hs
  obtain ⟨i0, hi, hz0, hz1, hz2⟩ := info_parts Try.infoPair
  go_enter Try.func6, Try.ntmps6
  go_wp2_with (refine wpList_make_full _ rfl _ _ 25 rfl w.heap.size 32 i0 _ 2 Try.underlying25 hi hz0 hz1 _ _ _ _ rs.length rfl rfl rfl rfl (by rw [hz2]; omega) (by unfold maxLen; omega) (Nat.le_refl _) ?_; intro w1 hown hgrow)
  have hbw : Below w.heap.size w w1 := (Below.refl _ _).grown hgrow (Nat.le_refl _) (by intro k h; cases h)
  clear hgrow
  go_loopw [4] (fun i wr => ∃ k : Nat, k ≤ rs.length ∧ i = .int .i64 k ∧ Below w.heap.size w wr ∧ ∃ xs : List Value, wr.ownsRow w.heap.size 32 2 (.slice (some ⟨w.heap.size, 0, none⟩) rs.length rs.length) rs.length xs ∧
      Filled xs 2 k (fun j => [.int .i64 (rs.getD j (0, 0)).1, .int .i64 (rs.getD j (0, 0)).2]))
    (fun i _ => rs.length - (intOf i).toNat)
  case atStart => exact ⟨0, Nat.zero_le _, rfl, hbw, _, hown, fun j hj => absurd hj (Nat.not_lt_zero _)⟩
  case round =>
    obtain ⟨k, hk, rfl, hb, xs, hown, hfill⟩ := hrel
    by_cases hlt : k < rs.length
    · obtain ⟨b, o, lo, hi, rfl, Hn, hbl, c0, c1⟩ := hc.elem hb hlt
      go_wp2_with (go_at_call 11; refine (toPair_ok _ _ _).mono ?_; rintro e w2 ⟨rfl, hb2⟩; have hown2 := ownsRow_below hown hb2; obtain ⟨u0, u1, d0, d1, f0, f1⟩ := own_two hown2 hlt)
      go_roundw
      case rel => exact ⟨k + 1, by omega, by go_num, ((below_step hb hb.size hb2).setCell (Nat.le_refl _) _).setCell (Nat.le_refl _) _, _, ((hown2.stored _ _).1.stored _ _).1, filled_two hfill (by have := hown2.1; omega) (by rw [Hn.out])⟩
      case measure => simp [intOf]; omega
    · go_wp2
      have hkk : k = rs.length := by omega
      refine bodyPost_ret (v := .slice (some ⟨w.heap.size, 0, none⟩) rs.length rs.length) (by simp [results, Try.results6, go_sem]) rfl ⟨_, rfl, ⟨_, _, rfl, hm, fun _ => ⟨w.heap.size, 0, rfl, Nat.le_refl _, own_lt hown, fun i hi => ?_⟩⟩, hb⟩
      rw [hkk] at hfill
      have e0 := filled_cell hown hfill (c := 0) hi (by omega)
      have e1 := filled_cell hown hfill (c := 1) hi (by omega)
      simp only [Nat.add_zero, Nat.zero_add] at e0 e1 ⊢
      exact ⟨e0, e1⟩


set_option maxHeartbeats 400000 in
theorem eqPair_ok (lo hi : Int) (w : World) :
    Calls Try.prog 14 #[.agg #[.int .i64 lo, .int .i64 hi], .agg #[.int .i64 lo, .int .i64 hi]] w fun e w' => e = .returned (.bool true) ∧ Below w.heap.size w w' := by
  go_enter Try.func14, Try.ntmps14
  go_wp2
  go_ret
  exact ⟨rfl, ((Below.refl _ _).alloc (Nat.le_refl _) _).alloc (by simp) _⟩

set_option maxRecDepth 100000 in
set_option maxHeartbeats 400000 in
theorem eqPairS_ok {l1 l2 : Nat} (v v2 : Value) (rs : List (Int × Int)) (w : World) (hs : RangesAt l1 w v rs) (hs2 : RangesAt l2 w v2 rs) :
    Calls Try.prog 8 #[v, v2] w fun e w' => e = .returned (.bool true) ∧ Below w.heap.size w w' := by
  obtain ⟨ao, cap, rfl, hm, hc⟩ := hs
  obtain ⟨ao2, cap2, rfl, _, hc2⟩ := hs2
  go_enter Try.func8, Try.ntmps8
  go_wp2
  go_loopw [5] (fun i wr => ∃ k : Nat, k ≤ rs.length ∧ i = .int .i64 k ∧ Below w.heap.size w wr)
    (fun i _ => rs.length - (intOf i).toNat)
  case atStart => exact ⟨0, Nat.zero_le _, rfl, Below.refl _ _⟩
  case round =>
    obtain ⟨k, hk, rfl, hb⟩ := hrel
    by_cases hlt : k < rs.length
    · obtain ⟨b, o, lo, hi, rfl, Hn, hbl, c0, c1⟩ := hc.elem hb hlt
      obtain ⟨b2, o2, lo2, hi2, rfl, Hn2, hbl2, d0, d1⟩ := hc2.elem hb hlt
      have hee := Hn.out.symm.trans Hn2.out
      simp only [Prod.mk.injEq] at hee
      obtain ⟨rfl, rfl⟩ := hee
      have hbr : b < wr.heap.size := Nat.lt_of_lt_of_le hbl hb.size
      have hbr2 : b2 < wr.heap.size := Nat.lt_of_lt_of_le hbl2 hb.size
      have hi0 : (0 : Int) ≤ (k : Int) := by omega
      have hi1 : (k : Int) < (rs.length : Int) := by omega
      go_wp2
      go_region_held3 (fun w' => w'.cell? ⟨b, o + k * 2, none⟩ = some (.int .i64 lo) ∧ w'.cell? ⟨b, o + k * 2 + 1, none⟩ = some (.int .i64 hi) ∧ w'.cell? ⟨b2, o2 + k * 2, none⟩ = some (.int .i64 lo) ∧ w'.cell? ⟨b2, o2 + k * 2 + 1, none⟩ = some (.int .i64 hi)) ((first | go_keep | exact ⟨(hcc _ _ hbr).trans c0, (hcc _ _ hbr).trans c1, (hcc _ _ hbr2).trans d0, (hcc _ _ hbr2).trans d1⟩)) ((go_at_call 14; refine (eqPair_ok _ _ _).mono ?_; rintro e w2 ⟨rfl, hb2⟩; obtain ⟨hcc, _⟩ := bcell hb2))
      go_wp2
      go_roundw
      case rel => exact ⟨k + 1, by omega, by go_num, below_step hb.drew hb.size hb2⟩
      case measure => simp [intOf]; omega
    · go_wp2
      go_ret
      exact ⟨rfl, hb⟩
end Go.Proofs.Ytipndbhedaknnaa
