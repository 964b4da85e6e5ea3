import Derived.Test.YtplhghhfdabccaaGrp
namespace Go.Proofs.Ytplhghhfdabccaa
open Go.RowKit

def implB (G : Int) (bs : List BranchD) : Bool :=
  decide (1 ≤ bs.length ∧ bs.length ≤ 2000) && decide (0 ≤ G ∧ G ≤ 500) && decide (nodeCount bs ≤ 5000) && grpOKs G [] (allGrp bs) && match liftAll bs with
    | none => false
    | some st => decide (sumCap st ≤ 2000)

theorem ret_tuple {v : Value} {a b : Bool} (h : a = b) : Ending.returned (.tuple #[v, .bool a]) = .returned (.tuple #[v, .bool b]) := by rw [h]

set_option maxRecDepth 100000 in
set_option maxHeartbeats 2000000 in
theorem liftRule_ok {lo : Nat} (G : Int) (v : Value) (bs : List BranchD) (w : World) (hs : BranchesAt lo w v bs) (hsm : Small bs) :
    Calls Try.prog 59 #[.agg #[v, .int .i64 G]] w fun e w' => (∃ pv, e = .returned (.tuple #[pv, .bool (implB G bs)])) ∧ Below w.heap.size w w' := by
  have hn := hsm.1
  have hs0 := hs
  obtain ⟨ao, cap, rfl, hm, hc⟩ := hs
  have hb0 : Below w.heap.size w (w.alloc (.cells #[.slice ao bs.length cap, .int .i64 G] 29)) := (Below.refl _ _).alloc (Nat.le_refl _) _
  have Hfalse : ∀ {b : Bool}, implB G bs = b → Hid (implB G bs = b) := fun h => h
  by_cases h1 : (bs.length : Int) < 1
  · have H := Hfalse (b := false) (by simp [implB]; omega)
    clear Hfalse
    go_enter Try.func59, Try.ntmps59
    go_wp2
    go_ret2
    exact ⟨⟨_, ret_tuple H.out.symm⟩, hb0⟩
  by_cases h2 : 2000 < (bs.length : Int)
  · have H := Hfalse (b := false) (by simp [implB]; omega)
    clear Hfalse
    go_enter Try.func59, Try.ntmps59
    go_wp2
    go_ret2
    exact ⟨⟨_, ret_tuple H.out.symm⟩, hb0⟩
  by_cases h3 : G < 0
  · have H := Hfalse (b := false) (by simp [implB]; omega)
    clear Hfalse
    go_enter Try.func59, Try.ntmps59
    go_wp2
    go_ret2
    exact ⟨⟨_, ret_tuple H.out.symm⟩, hb0⟩
  by_cases h4 : 500 < G
  · have H := Hfalse (b := false) (by simp [implB]; omega)
    clear Hfalse
    go_enter Try.func59, Try.ntmps59
    go_wp2
    go_ret2
    exact ⟨⟨_, ret_tuple H.out.symm⟩, hb0⟩
  have HA : Hid (implB G bs = (decide (nodeCount bs ≤ 5000) && grpOKs G [] (allGrp bs) && match liftAll bs with
    | none => false
    | some st => decide (sumCap st ≤ 2000))) := by
    show _ = _
    unfold implB
    have e1 : decide (1 ≤ bs.length ∧ bs.length ≤ 2000) = true := by simp; omega
    have e2 : decide (0 ≤ G ∧ G ≤ 500) = true := by simp; omega
    rw [e1, e2]
    simp
  clear Hfalse
  have hnc := nodeCount_bd hsm bs.length (Nat.le_refl _)
  rw [List.take_length] at hnc
  go_enter Try.func59, Try.ntmps59
  go_wp2_with fail
  refine (countNodes_ok _ bs _ (hs0.below hb0) hsm).mono ?_
  rintro e w1 ⟨rfl, hb1⟩
  have k0 : w1.cell? ⟨w.heap.size, 0, none⟩ = some (.slice ao bs.length cap) := (hb1.cell (by simp)).trans (by simp)
  have k1 : w1.cell? ⟨w.heap.size, 1, none⟩ = some (.int .i64 G) := (hb1.cell (by simp)).trans (by simp)
  have hz1 : w.heap.size < w1.heap.size := Nat.lt_of_lt_of_le (by simp) hb1.size
  have hbb1 := below_step hb0 hb0.size hb1
  by_cases h5 : 5000 < (nodeCount bs : Int)
  · have H : Hid (implB G bs = false) := by
      show _ = _
      rw [HA.out]
      have : decide (nodeCount bs ≤ 5000) = false := by simp; omega
      rw [this]; simp
    clear HA
    go_wp2
    go_ret2
    exact ⟨⟨_, ret_tuple H.out.symm⟩, hbb1⟩
  go_wp2_with fail
  refine (groupsOK_ok G _ bs _ (hs0.below hbb1) hsm (by omega) (by omega)).mono ?_
  rintro e w2 ⟨rfl, hb2⟩
  have m0 : w2.cell? ⟨w.heap.size, 0, none⟩ = some (.slice ao bs.length cap) := (hb2.cell (by exact hz1)).trans k0
  have hbb2 := below_step hbb1 hbb1.size hb2
  have hz2 : w.heap.size < w2.heap.size := Nat.lt_of_lt_of_le hz1 hb2.size
  have e5 : decide (nodeCount bs ≤ 5000) = true := by simp; omega
  rw [e5, Bool.true_and] at HA
  clear e5 k0 k1 hb1 hb2
  by_cases h6 : grpOKs G [] (allGrp bs) = false
  · have H : Hid (implB G bs = false) := by show _ = _; rw [HA.out, h6]; simp
    clear HA
    go_wp2
    go_ret2
    exact ⟨⟨_, ret_tuple H.out.symm⟩, hbb2⟩
  have h6' : grpOKs G [] (allGrp bs) = true := by simpa using h6
  clear h6
  rw [h6', Bool.true_and] at HA
  go_wp2_with fail
  refine (liftBranches_ok _ bs _ (hs0.below hbb2) hsm).mono ?_
  rintro e w3 ⟨hb3, ⟨hf, rfl⟩ | ⟨st, xs, N, g, sc, hf, hl, rfl, hown, hparts⟩⟩
  · have H : Hid (implB G bs = false) := by show _ = _; rw [HA.out, hf]
    clear HA hf
    go_wp2
    go_ret2
    exact ⟨⟨_, ret_tuple H.out.symm⟩, below_step hbb2 hbb2.size hb3⟩
  · have H : Hid (implB G bs = decide (sumCap st ≤ 2000)) := by show _ = _; rw [HA.out, hf]
    have hst : st.length ≤ 2000000 := by omega
    clear HA hf hl
    have hbb3 := below_step hbb2 hbb2.size hb3
    have hsb := sumCap_bd hparts st.length (Nat.le_refl _)
    rw [List.take_length] at hsb
    by_cases h7 : 2000 < sumCap st
    · go_wp2_with fail
      refine (weightOfAll_ok st xs _ hown hparts hst).mono ?_
      rintro e w4 ⟨rfl, hb4⟩
      go_wp2
      go_ret2
      exact ⟨⟨_, ret_tuple (by rw [H.out]; simp; omega)⟩, below_step hbb3 hbb3.size hb4⟩
    · go_wp2_with fail
      refine (weightOfAll_ok st xs _ hown hparts hst).mono ?_
      rintro e w4 ⟨rfl, hb4⟩
      go_wp2
      go_ret2
      exact ⟨⟨_, ret_tuple (by rw [H.out]; simp; omega)⟩, below_step hbb3 hbb3.size hb4⟩

set_option maxRecDepth 100000 in
set_option maxHeartbeats 400000 in
theorem implRuleOK_ok {lo : Nat} (G : Int) (v : Value) (bs : List BranchD) (w : World) (hs : BranchesAt lo w v bs) (hsm : Small bs) :
    Calls Try.prog 17 #[.agg #[v, .int .i64 G]] w fun e w' => e = .returned (.bool (implB G bs)) ∧ Below w.heap.size w w' := by
  have hs0 := hs
  obtain ⟨ao, cap, rfl, hm, hc⟩ := hs
  have hb0 : Below w.heap.size w (w.alloc (.cells #[.slice ao bs.length cap, .int .i64 G] 29)) := (Below.refl _ _).alloc (Nat.le_refl _) _
  go_enter Try.func17, Try.ntmps17
  go_wp2_with fail
  refine (liftRule_ok G _ bs _ (hs0.below hb0) hsm).mono ?_
  rintro e w1 ⟨⟨pv, rfl⟩, hb1⟩
  go_wp2
  go_ret
  exact ⟨rfl, below_step hb0 hb0.size hb1⟩
end Go.Proofs.Ytplhghhfdabccaa
