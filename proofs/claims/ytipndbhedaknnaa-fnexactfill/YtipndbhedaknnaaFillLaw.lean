import Derived.Test.YtipndbhedaknnaaFillR
namespace Go.Proofs.Ytipndbhedaknnaa
open Go.RowKit
attribute [local go_sem ↓] Go.wp_at_zero Go.wp_at_succ

set_option maxRecDepth 100000 in
set_option maxHeartbeats 4000000 in
theorem lawFill_ok {lo : Nat} (tm tx : ByteArray) (v : Value) (sp : List (Int × Int)) (w : World) (hs : RangesAt lo w v sp) (hm1 : tm.size ≤ 9223372036854775807) (hm2 : tx.size ≤ 9223372036854775807)
    (himpl : tm.size ≤ 1048576 → tx.size ≤ 1048576 → sp.length ≤ 1048576 → ∀ (l : Nat) (v : Value) (w : World), RangesAt l w v sp → Calls Try.prog 7 #[.string tm, .string tx, v] w fun e w' => e = .returned (.string (fillF tm tx sp)) ∧ Below w.heap.size w w') :
    Calls Try.prog 3 #[.string tm, .string tx, v] w fun e w' => e = .returned (.bool true) ∧ Below w.heap.size w w' := by
  by_cases g1 : 1048576 < (tm.size : Int)
  · go_enter Try.func3, Try.ntmps3
    go_wp2
    go_ret
    exact ⟨rfl, Below.refl _ _⟩
  by_cases g2 : 1048576 < (tx.size : Int)
  · go_enter Try.func3, Try.ntmps3
    go_wp2
    go_ret
    exact ⟨rfl, Below.refl _ _⟩
  have g1' : tm.size ≤ 1048576 := by omega
  have g2' : tx.size ≤ 1048576 := by omega
  obtain ⟨ao, cap, rfl, hm, hc⟩ := hs
  have hs : RangesAt lo w (.slice ao sp.length cap) sp := ⟨_, _, rfl, hm, hc⟩
  clear hc
  have hsz := szRangesF_le sp 1048576 (by omega)
  go_enter Try.func3, Try.ntmps3
  go_wp2_with fail
  refine (szPairS_ok _ _ _ _ _ (by omega) (by omega) hm).mono ?_
  rintro e w1 ⟨rfl, rfl⟩
  by_cases hneg : szRangesF sp 1048576 < 0
  · go_wp2
    go_ret
    exact ⟨rfl, Below.refl _ _⟩
  have hsm : sp.length ≤ 1048576 := by unfold szRangesF at hneg; split at hneg <;> omega
  replace himpl := himpl g1' g2' hsm
  go_wp2_with fail
  refine (toPairS_ok _ sp _ hs hsm).mono ?_
  rintro e w2 ⟨v2, rfl, hx2, hb2⟩
  go_wp2_with fail
  refine (specFill_ok tm tx _ sp _ hx2 g1' g2').mono ?_
  rintro e w3 ⟨rfl, hb3⟩
  have hbb3 := below_step hb2 hb2.size hb3
  go_wp2_with fail
  refine (toPairS_ok _ sp _ (hs.below hbb3) hsm).mono ?_
  rintro e w4 ⟨v4, rfl, hx4, hb4⟩
  have hbb4 := below_step hbb3 hbb3.size hb4
  go_wp2_with fail
  refine (himpl _ _ _ hx4).mono ?_
  rintro e w5 ⟨rfl, hb5⟩
  have hbb5 := below_step hbb4 hbb4.size hb5
  have hx5 := hx4.below hb5
  generalize fillF tm tx sp = sb at *
  go_wp2_with fail
  refine (toPairS_ok _ sp _ (hs.below hbb5) hsm).mono ?_
  rintro e w6 ⟨v6, rfl, hx6, hb6⟩
  have hbb6 := below_step hbb5 hbb5.size hb6
  go_wp2_with fail
  refine (eqPairS_ok _ _ sp _ (hx5.below hb6) hx6).mono ?_
  rintro e w7 ⟨rfl, hb7⟩
  go_wp2
  go_ret
  exact ⟨rfl, below_step hbb6 hbb6.size hb7⟩
end Go.Proofs.Ytipndbhedaknnaa
