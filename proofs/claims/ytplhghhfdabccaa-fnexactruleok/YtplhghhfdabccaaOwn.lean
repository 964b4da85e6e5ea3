import Derived.Test.YtplhghhfdabccaaSz
namespace Go.Proofs.Ytplhghhfdabccaa
open Go.RowKit

theorem Try.infoNode : (Try.prog.info? 88).map (fun i => (i.zero, i.size, i.bytes)) = some (some (.agg #[.int .i64 0, .slice none 0 0, .int .i64 0, .int .i64 0, .int .i64 0]), 5, 56) := by kernel_rfl
theorem Try.infoBranch : (Try.prog.info? 83).map (fun i => (i.zero, i.size, i.bytes)) = some (some (.agg #[.bool false, .bool false, .slice none 0 0]), 3, 32) := by kernel_rfl
theorem Try.infoRange : (Try.prog.info? 138).map (fun i => (i.zero, i.size, i.bytes)) = some (some (.agg #[.int .i64 0, .int .i64 0]), 2, 16) := by kernel_rfl

set_option maxHeartbeats 400000 in
theorem toRange_ok (lo hi : Int) (w : World) :
    Calls Try.prog 130 #[.agg #[.int .i64 lo, .int .i64 hi]] w fun e w' => e = .returned (.agg #[.int .i64 lo, .int .i64 hi]) ∧ Below w.heap.size w w' := by
  go_enter Try.func130, Try.ntmps130
  go_wp2
  exact bodyPost_ret (v := .agg #[.int .i64 lo, .int .i64 hi]) (by simp [results, Try.results130, go_sem]) rfl ⟨rfl, (((Below.refl _ _).alloc (Nat.le_refl _) _).alloc (by simp) _).alloc (by simp; omega) _⟩

set_option maxRecDepth 100000 in
set_option maxHeartbeats 400000 in
theorem toRangeS_ok {lo : Nat} (v : Value) (rs : List (Int × Int)) (w : World) (hs : RangesAt lo w v rs) (hn : rs.length ≤ 1048576) :
    Calls Try.prog 124 #[v] w fun e w' => ∃ v', e = .returned v' ∧ RangesAt w.heap.size w' v' rs ∧ Below w.heap.size w w' := by
  obtain ⟨ao, cap, rfl, hm, hc⟩ := hs
  obtain ⟨i0, hi, hz0, hz1, hz2⟩ := info_parts Try.infoRange
  go_enter Try.func124, Try.ntmps124
  go_wp2_with (refine wpList_make_full _ rfl _ _ 86 rfl w.heap.size 138 i0 _ 2 Try.underlying86 hi hz0 hz1 _ _ _ _ rs.length rfl rfl rfl rfl (by rw [hz2]; omega) (by unfold maxLen; omega) (Nat.le_refl _) ?_; intro w1 hown hgrow)
  have hbw : Below w.heap.size w w1 := (Below.refl _ _).grown hgrow (Nat.le_refl _) (by intro k h; cases h)
  clear hgrow
  go_loopw [4] (fun i wr => ∃ k : Nat, k ≤ rs.length ∧ i = .int .i64 k ∧ Below w.heap.size w wr ∧ ∃ xs : List Value, wr.ownsRow w.heap.size 138 2 (.slice (some ⟨w.heap.size, 0, none⟩) rs.length rs.length) rs.length xs ∧
      Filled xs 2 k (fun j => [.int .i64 (rs.getD j (0, 0)).1, .int .i64 (rs.getD j (0, 0)).2]))
    (fun i _ => rs.length - (intOf i).toNat)
  case atStart => exact ⟨0, Nat.zero_le _, rfl, hbw, _, hown, fun j hj => absurd hj (Nat.not_lt_zero _)⟩
  case round =>
    obtain ⟨k, hk, rfl, hb, xs, hown, hfill⟩ := hrel
    by_cases hlt : k < rs.length
    · obtain ⟨b, o, lo, hi, rfl, Hn, hbl, c0, c1⟩ := hc.elem hb hlt
      go_wp2_with (go_at_call 130; refine (toRange_ok _ _ _).mono ?_; rintro e w2 ⟨rfl, hb2⟩; have hown2 := ownsRow_below hown hb2; obtain ⟨u0, u1, d0, d1, f0, f1⟩ := own_two hown2 hlt)
      go_roundw
      case rel => exact ⟨k + 1, by omega, by go_num, ((below_step hb hb.size hb2).setCell (Nat.le_refl _) _).setCell (Nat.le_refl _) _, _, ((hown2.stored _ _).1.stored _ _).1, filled_two hfill (by have := hown2.1; omega) (by rw [Hn.out])⟩
      case measure => simp [intOf]; omega
    · go_wp2
      have hkk : k = rs.length := by omega
      refine bodyPost_ret (v := .slice (some ⟨w.heap.size, 0, none⟩) rs.length rs.length) (by simp [results, Try.results124, go_sem]) rfl ⟨_, rfl, ⟨_, _, rfl, hm, fun _ => ⟨w.heap.size, 0, rfl, Nat.le_refl _, own_lt hown, fun i hi => ?_⟩⟩, hb⟩
      rw [hkk] at hfill
      have e0 := filled_cell hown hfill (c := 0) hi (by omega)
      have e1 := filled_cell hown hfill (c := 1) hi (by omega)
      simp only [Nat.add_zero, Nat.zero_add] at e0 e1 ⊢
      exact ⟨e0, e1⟩
end Go.Proofs.Ytplhghhfdabccaa
