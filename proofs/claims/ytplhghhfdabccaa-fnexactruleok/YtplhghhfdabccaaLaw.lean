import Derived.Test.YtplhghhfdabccaaSame
import Derived.Deep.RegionHeld3
import Derived.Deep.DrawnRows
namespace Go.Proofs.Ytplhghhfdabccaa
open Go.RowKit

theorem szRanges_small {rs : List (Int × Int)} {l : Int} (h : 0 ≤ szRangesF rs l) (hl : l ≤ 1048576) : rs.length ≤ 1048576 := by
  unfold szRangesF at h; split at h <;> omega
theorem szNodesL_small : ∀ (ns : List NodeD) (l : Int), 0 ≤ l → l ≤ 1048576 → 0 ≤ szNodesL ns l → ∀ j, j < ns.length → (ns.getD j .zero).set.length ≤ 1048576
  | [], _, _, _, _, j, hj => absurd hj (Nat.not_lt_zero _)
  | n :: ns, l, h0, h1, h, j, hj => by
    unfold szNodesL at h
    have hb := szRangesF_le n.set l h0
    by_cases hc : szRangesF n.set l < 0
    · rw [if_pos hc] at h; omega
    · rw [if_neg hc] at h
      cases j with
      | zero => exact szRanges_small (rs := n.set) (show 0 ≤ szRangesF n.set l by omega) h1
      | succ j => exact szNodesL_small ns _ (by omega) (by omega) h j (by simpa using hj)
theorem szNodes_small {ns : List NodeD} {l : Int} (h1 : l ≤ 1048576) (h : 0 ≤ szNodesF ns l) : ns.length ≤ 1048576 ∧ ∀ j, j < ns.length → (ns.getD j .zero).set.length ≤ 1048576 := by
  unfold szNodesF at h
  by_cases hc : l - ns.length < 0
  · rw [if_pos hc] at h; omega
  · rw [if_neg hc] at h
    exact ⟨by omega, szNodesL_small ns _ (by omega) (by omega) h⟩
theorem szBranchesL_small : ∀ (bs : List BranchD) (l : Int), 0 ≤ l → l ≤ 1048576 → 0 ≤ szBranchesL bs l → ∀ i, i < bs.length → (bs.getD i .zero).nodes.length ≤ 1048576 ∧ ∀ j, j < (bs.getD i .zero).nodes.length → ((bs.getD i .zero).nodes.getD j .zero).set.length ≤ 1048576
  | [], _, _, _, _, j, hj => absurd hj (Nat.not_lt_zero _)
  | b :: bs, l, h0, h1, h, i, hi => by
    unfold szBranchesL at h
    have hb := szNodesF_le b.nodes l h0
    by_cases hc : szNodesF b.nodes l < 0
    · rw [if_pos hc] at h; omega
    · rw [if_neg hc] at h
      cases i with
      | zero => exact szNodes_small (ns := b.nodes) h1 (show 0 ≤ szNodesF b.nodes l by omega)
      | succ i => exact szBranchesL_small bs _ (by omega) (by omega) h i (by simpa using hi)
theorem sz_small {bs : List BranchD} (h : 0 ≤ szBranchesF bs 1048576) : Small bs := by
  unfold szBranchesF at h
  by_cases hc : (1048576 : Int) - bs.length < 0
  · rw [if_pos hc] at h; omega
  · rw [if_neg hc] at h
    exact ⟨by omega, szBranchesL_small bs _ (by omega) (by omega) h⟩

attribute [local go_sem ↓] Go.wp_at_zero Go.wp_at_succ

set_option maxRecDepth 100000 in
set_option maxHeartbeats 2000000 in
theorem law_ok {lo : Nat} (G : Int) (v : Value) (bs : List BranchD) (w : World) (hs : BranchesAt lo w v bs) :
    Calls Try.prog 3 #[.agg #[v, .int .i64 G]] w fun e w' => e = .returned (.bool true) ∧ Below w.heap.size w w' := by
  have hs0 := hs
  obtain ⟨ao, cap, rfl, hm, hc⟩ := hs
  have hb0 : Below w.heap.size w (w.alloc (.cells #[.slice ao bs.length cap, .int .i64 G] 24)) := (Below.refl _ _).alloc (Nat.le_refl _) _
  have hsz := szBranchesF_le bs 1048576 (by omega)
  go_enter Try.func3, Try.ntmps3
  go_wp2_with fail
  refine (szRule_ok G _ bs 1048576 _ (hs0.below hb0) (by omega) (by omega)).mono ?_
  rintro e w1 ⟨rfl, hb1⟩
  have hbb1 := below_step hb0 hb0.size hb1
  have hz1 : w.heap.size < w1.heap.size := Nat.lt_of_lt_of_le (by simp) hb1.size
  have a0 : w1.cell? ⟨w.heap.size, 0, none⟩ = some (.slice ao bs.length cap) := (hb1.cell (by simp)).trans (by simp)
  have a1 : w1.cell? ⟨w.heap.size, 1, none⟩ = some (.int .i64 G) := (hb1.cell (by simp)).trans (by simp)
  by_cases hneg : szBranchesF bs 1048576 < 0
  · go_wp2
    go_ret
    exact ⟨rfl, hbb1⟩
  have hsm : Small bs := sz_small (by omega)
  go_wp2_with fail
  refine (toRule_ok G _ bs _ (hs0.below hbb1) hsm).mono ?_
  rintro e w2 ⟨bv2, rfl, hx2, hb2⟩
  have hbb2 := below_step hbb1 hbb1.size hb2
  have b0 := (hb2.cell (p := ⟨w.heap.size, 0, none⟩) hz1).trans a0
  have b1 := (hb2.cell (p := ⟨w.heap.size, 1, none⟩) hz1).trans a1
  have hz2 : w.heap.size < w2.heap.size := Nat.lt_of_lt_of_le hz1 hb2.size
  clear a0 a1
  go_wp2_with fail
  refine (specRuleOK_ok G _ bs _ hx2 hsm).mono ?_
  rintro e w3 ⟨rfl, hb3⟩
  have hbb3 := below_step hbb2 hbb2.size hb3
  have d0 := (hb3.cell (p := ⟨w.heap.size, 0, none⟩) hz2).trans b0
  have d1 := (hb3.cell (p := ⟨w.heap.size, 1, none⟩) hz2).trans b1
  have hz3 : w.heap.size < w3.heap.size := Nat.lt_of_lt_of_le hz2 hb3.size
  clear b0 b1
  go_wp2_with fail
  refine (toRule_ok G _ bs _ (hs0.below hbb3) hsm).mono ?_
  rintro e w4 ⟨bv4, rfl, hx4, hb4⟩
  have hbb4 := below_step hbb3 hbb3.size hb4
  have e0 := (hb4.cell (p := ⟨w.heap.size, 0, none⟩) hz3).trans d0
  have e1 := (hb4.cell (p := ⟨w.heap.size, 1, none⟩) hz3).trans d1
  have hz4 : w.heap.size < w4.heap.size := Nat.lt_of_lt_of_le hz3 hb4.size
  clear d0 d1
  obtain ⟨ao4, cap4, rfl, hm4, hc4⟩ := hx4
  have hx4 : BranchesAt w3.heap.size w4 (.slice ao4 bs.length cap4) bs := ⟨_, _, rfl, hm4, hc4⟩
  have hb4a : Below w4.heap.size w4 (w4.alloc (.cells #[.slice ao4 bs.length cap4, .int .i64 G] 29)) := (Below.refl _ _).alloc (Nat.le_refl _) _
  go_wp2_with fail
  refine (implRuleOK_ok G _ bs _ (hx4.below hb4a) hsm).mono ?_
  rintro e w5 ⟨rfl, hb5⟩
  have hbb4a := below_step hbb4 hbb4.size hb4a
  have hbb5 := below_step hbb4a hbb4a.size hb5
  have hz5 : w4.heap.size < w5.heap.size := Nat.lt_of_lt_of_le (by simp) hb5.size
  have f0 : w5.cell? ⟨w.heap.size, 0, none⟩ = some (.slice ao bs.length cap) := (hb5.cell (by simp; omega)).trans ((World.cell?_of_block (Below.heap_alloc _ _ _ hz4)).trans e0)
  have f1 : w5.cell? ⟨w.heap.size, 1, none⟩ = some (.int .i64 G) := (hb5.cell (by simp; omega)).trans ((World.cell?_of_block (Below.heap_alloc _ _ _ hz4)).trans e1)
  have g0 : w5.cell? ⟨w4.heap.size, 0, none⟩ = some (.slice ao4 bs.length cap4) := (hb5.cell (by simp)).trans (by simp)
  have g1 : w5.cell? ⟨w4.heap.size, 1, none⟩ = some (.int .i64 G) := (hb5.cell (by simp)).trans (by simp)
  have hx5 := (hx4.below hb4a).below hb5
  clear e0 e1
  have hsame : Hid (implB G bs = specB G bs) := rule_same G bs
  rw [hsame.out]
  generalize specB G bs = sb at *
  have hne : (sb != sb) = false := by simp
  have hwv : w.heap.size < w5.heap.size := by omega
  go_wp2
  go_region_held3 (fun w' => w'.cell? ⟨w.heap.size, 0, none⟩ = some (.slice ao bs.length cap) ∧ w'.cell? ⟨w.heap.size, 1, none⟩ = some (.int .i64 G) ∧ w'.cell? ⟨w4.heap.size, 0, none⟩ = some (.slice ao4 bs.length cap4) ∧ w'.cell? ⟨w4.heap.size, 1, none⟩ = some (.int .i64 G)) ((first | exact ⟨f0, f1, g0, g1⟩ | exact ⟨(hb7.cell (by exact hwv6)).trans ((hb6.cell (by exact hwv)).trans f0), (hb7.cell (by exact hwv6)).trans ((hb6.cell (by exact hwv)).trans f1), (hb7.cell (by exact hwx6)).trans ((hb6.cell (by exact hz5)).trans g0), (hb7.cell (by exact hwx6)).trans ((hb6.cell (by exact hz5)).trans g1)⟩ | exact ⟨(hb6.cell (by exact hwv)).trans f0, (hb6.cell (by exact hwv)).trans f1, (hb6.cell (by exact hz5)).trans g0, (hb6.cell (by exact hz5)).trans g1⟩)) ((first | (go_at_call 16; refine (toRule_ok G _ bs _ (hs0.below hbb5.drew) hsm).mono ?_; rintro e w6 ⟨bv6, rfl, hx6, hb6⟩; have hwv6 : w.heap.size < w6.heap.size := Nat.lt_of_lt_of_le hwv hb6.size; have hwx6 : w4.heap.size < w6.heap.size := Nat.lt_of_lt_of_le hz5 hb6.size) | (go_at_call 18; refine (eqRule_ok G _ _ bs _ ((hx5.below (Below.refl _ _).drew).below hb6) hx6).mono ?_; rintro e w7 ⟨rfl, hb7⟩)))
  go_wp2
  go_ret
  exact ⟨rfl, below_step (below_step hbb5.drew hbb5.size hb6) (Nat.le_trans hbb5.size hb6.size) hb7⟩
end Go.Proofs.Ytplhghhfdabccaa
