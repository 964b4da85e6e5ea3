import Derived.Test.YtgbdlgogccgciaaGreatDoorPhE
namespace Go.Proofs.YtgbdlgogccgciaaGreatDoor
open Go.RowKit
attribute [local go_sem ↓] Go.wp_at_zero Go.wp_at_succ

/- impl.ParseERE. -/
/-- The laid variables: bytealg.MaxLen in block 1, errors.errorType in block 0. -/
structure LaidE (m : Int) (w : World) : Prop where
  max : w.cell? ⟨1, 0, none⟩ = some (.int .i64 m)
  typ : w.cell? ⟨0, 0, none⟩ = some (.iface 122 (.agg #[.pointer (some ⟨2, 47, none⟩)]))
  two : 1 < w.heap.size
theorem LaidE.below {m : Int} {w w' : World} (h : LaidE m w) (hb : Below w.heap.size w w') : LaidE m w' := by
  have := h.two
  exact ⟨by rw [World.cell?_of_block (w := w) (hb.block 1 h.two)]; exact h.max, by rw [World.cell?_of_block (w := w) (hb.block 0 (by omega))]; exact h.typ, Nat.lt_of_lt_of_le h.two hb.size⟩
theorem BrP.nil (B p : Nat) (W : World) : BrP B p W (.slice none 0 0) [] [] [] := ⟨rfl, rfl, ⟨rfl, .inl ⟨rfl, rfl⟩⟩, fun k h => absurd h (by simp), List.nodup_nil, fun b h => by cases h⟩
theorem BrP.ge {B p : Nat} {W : World} {v : Value} {bs : List BranchD} {nvs : List Value} {vss : List (List Value)} (h : BrP B p W v bs nvs vss) {b : Nat} (hb : b ∈ vss.flatten.filterMap Value.ownBlock) : B ≤ b ∧ b < p := by
  obtain ⟨u, hu, he⟩ := List.mem_filterMap.1 hb
  obtain ⟨vs, hvs, huv⟩ := List.mem_flatten.1 hu
  obtain ⟨k, hk, rfl⟩ := List.getElem_of_mem hvs
  obtain ⟨j, hj, rfl⟩ := List.getElem_of_mem huv
  rw [h.l2] at hk
  have hN := h.nds k hk
  rw [show vss.getD k [] = vss[k] by simp [List.getD, h.l2, hk]] at hN
  have hr := hN.2.2 j (by rw [← hN.1]; exact hj)
  rw [show (vss[k]).getD j nilS = (vss[k])[j] by simp [List.getD, hj]] at hr
  exact ⟨(ownsRow_blk hr.1 he).1, hr.2 b he⟩
/-- What impl.ParseERE answers. -/
def PaA (w : World) (r : RuleD) (c a : Int) (e : Ending) (w' : World) : Prop := Below w.heap.size w w' ∧ ∃ v p nvs vss, e = .returned (.tuple #[.agg #[v, .int .i64 r.groups], .int .i64 c, .int .i64 a]) ∧ BrP w.heap.size p w' v r.branches nvs vss ∧ w.heap.size ≤ p ∧ (vss.flatten.filterMap Value.ownBlock).Nodup
theorem below_le {B B' : Nat} {w w' : World} (h : Below B w w') (hB : B' ≤ B) : Below B' w w' := h.mono hB
set_option maxRecDepth 100000 in
set_option maxHeartbeats 4000000 in
theorem implParse_ok (t : ByteArray) (m : Int) (w : World) (hL : LaidE m w) {r : RuleD} {c a : Int} (h : ParseR t.data.toList r c a) : Calls Tryz.prog 5 #[.string t] w (PaA w r c a) := by
  obtain ⟨W0, hW0⟩ : ∃ W0, W0 = w.alloc (.cells #[.slice none 0 0, .int .i64 0] 24) := ⟨_, rfl⟩
  have hr0 : W0.heap[w.heap.size]? = some (.cells #[.slice none 0 0, .int .i64 0] 24 (0, 0)) := by rw [hW0]; exact heap_alloc_new _ _
  have hb0 : Below w.heap.size w W0 := by rw [hW0]; exact (Below.refl _ _).alloc (Nat.le_refl _) _
  have hL0 := hL.below hb0
  have hC := readRule_ok t m W0 hL0.max hL0.two h
  have HL := hid hL
  clear hL hL0 h
  go_enter Tryz.func5, Tryz.ntmps5
  go_wp2_with fail
  rw [← hW0]
  clear hW0
  refine hC.mono ?_
  rintro e w1 ⟨hb1, hcase⟩
  have hr1 := row_below hr0 hb1
  have hbb1 := below_step hb0 hb0.size hb1
  have hlt := row_lt hr0
  have hs1 := hb1.size
  clear hC
  rcases hcase with ⟨hc, i, rfl, rfl, rfl⟩ | ⟨rfl, rfl, v, p, nvs, vss, rfl, hB, hp, hnd⟩
  · obtain ⟨W3, hW3⟩ : ∃ W3, W3 = (w1.alloc (.cells #[.slice none 0 0, .int .i64 0] 24)).alloc (.cells #[.int .i64 0, .int .i64 0] 51) := ⟨_, rfl⟩
    have hb3 : Below w1.heap.size w1 W3 := by rw [hW3]; exact ((Below.refl _ _).alloc (Nat.le_refl _) _).alloc (by simp) _
    have hq3 : W3.heap[w1.heap.size + 1]? = some (.cells #[.int .i64 0, .int .i64 0] 51 (0, 0)) := by
      rw [hW3]
      have := heap_alloc_new (w1.alloc (.cells #[.slice none 0 0, .int .i64 0] 24)) (.cells #[.int .i64 0, .int .i64 0] 51)
      rw [show (w1.alloc (.cells #[.slice none 0 0, .int .i64 0] 24)).heap.size = w1.heap.size + 1 by simp] at this
      exact this
    have hbb3 := below_step hbb1 hbb1.size hb3
    have hL3 := HL.out.below hbb3
    have hA := as_hit c (i : Int) (w1.heap.size + 1) _ _ W3 hL3.typ (by have := hL3.two; omega) hq3
    have hr3 := row_below hr1 hb3
    have hs3 : w1.heap.size + 1 < W3.heap.size := row_lt hq3
    have HL3 := hid hL3
    clear hL3
    unfold faultV
    go_wp2_with fail
    try rw [← hW3]
    clear hW3
    generalize hqq : w1.heap.size + 1 = q at *
    refine hA.mono ?_
    rintro e w4 ⟨rfl, hw4⟩
    have hq4 : w4.heap[q]? = some (.cells #[.int .i64 c, .int .i64 (i : Int)] 51 (0, 0)) := by rw [hw4]; exact setRow_heap _ _ _ _ _ _ (row_alloc (row_alloc (row_alloc (row_alloc hq3))))
    have hb4 : Below q W3 w4 := by rw [hw4]; exact Below.setRow (((((Below.refl _ _).alloc (by omega) _).alloc (by simp; omega) _).alloc (by simp; omega) _).alloc (by simp; omega) _) (Nat.le_refl _) _
    have hr4 : w4.heap[w.heap.size]? = some (.cells #[.slice none 0 0, .int .i64 0] 24 (0, 0)) := by rw [hb4.block _ (by omega)]; exact hr3
    have HBB : Hid (Below w.heap.size w w4) := hbb3.trans (hb4.mono (by omega))
    obtain ⟨r0, r1, f0, f1⟩ := row_twoE hr4
    obtain ⟨y0, y1, -, -⟩ := row_twoE hq4
    clear hA hw4 hb4 hq3 hr3 hr1 hr0 hq4 hr4
    have hne : q ≠ w.heap.size := by omega
    go_wp2
    go_region
    go_wp2
    exact bodyPost_ret (v := .tuple #[.agg #[.slice none 0 0, .int .i64 0], .int .i64 c, .int .i64 (i : Int)]) (by simp [results, Tryz.results5, go_sem, r0, r1]) rfl ⟨((HBB.out.setCell (Nat.le_refl _) _).setCell (Nat.le_refl _) _).drew, .slice none 0 0, w.heap.size, [], [], rfl, BrP.nil _ _ _, Nat.le_refl _, List.nodup_nil⟩
  · have hvf : ∃ ao vn vc, v = .slice ao vn vc := by
      rcases hB.own.2 with ⟨e, _⟩ | ⟨g, cap, _, e, _⟩
      · exact ⟨_, _, _, e⟩
      · exact ⟨_, _, _, e⟩
    obtain ⟨ao, vn, vc, rfl⟩ := hvf
    generalize hgg : r.groups = gg at *
    obtain ⟨W3, hW3⟩ : ∃ W3, W3 = (w1.alloc (.cells #[.slice ao vn vc, .int .i64 gg] 24)).alloc (.cells #[.int .i64 0, .int .i64 0] 51) := ⟨_, rfl⟩
    have hb3 : Below w1.heap.size w1 W3 := by rw [hW3]; exact ((Below.refl _ _).alloc (Nat.le_refl _) _).alloc (by simp) _
    have hx3 : W3.heap[w1.heap.size]? = some (.cells #[.slice ao vn vc, .int .i64 gg] 24 (0, 0)) := by rw [hW3]; exact row_alloc (heap_alloc_new _ _)
    have HBB := hid (below_step hbb1 hbb1.size hb3)
    have hr3 := row_below hr1 hb3
    have HGG := hid hgg
    have HF : Hid (∀ W, W = (W3.setCell ⟨w.heap.size, 0, none⟩ (.slice ao vn vc)).setCell ⟨w.heap.size, 1, none⟩ (.int .i64 gg) → PaA w r 0 0 (.returned (.tuple #[.agg #[.slice ao vn vc, .int .i64 gg], .int .i64 0, .int .i64 0])) W) := by
      intro W hW
      refine ⟨by rw [hW]; exact (HBB.out.setCell (Nat.le_refl _) _).setCell (Nat.le_refl _) _, .slice ao vn vc, p, nvs, vss, by rw [HGG.out], ((hB.keepB (w' := W3) fun b _ hl => hb3.block b hl).keepC fun b hb hl => ?_).mono (Nat.le_of_lt hlt), by omega, hnd⟩
      have hbn : b ≠ w.heap.size := by
        rcases hb with hb | hb | hb
        · have := (hB.vlt b hb).1; omega
        · have := (hB.lt b hb).1; omega
        · have := (hB.ge hb).1; omega
      rw [hW, heap_setCell_other _ _ _ _ hbn, heap_setCell_other _ _ _ _ hbn]
    obtain ⟨r0, r1, f0, f1⟩ := row_twoE hr3
    obtain ⟨y0, y1, -, -⟩ := row_twoE hx3
    have hA := as_nil (.iface 53 (.pointer (some ⟨w1.heap.size + 1, 0, none⟩))) W3
    have hne : w1.heap.size ≠ w.heap.size := by omega
    clear hB hnd hb3 hr3 hx3 hr1 hr0 hgg
    go_wp2_with fail
    try rw [← hW3]
    clear hW3
    refine hA.mono ?_
    rintro e w4 ⟨rfl, hw4⟩
    rw [hw4]
    clear hw4 w4 hA
    go_wp2
    exact bodyPost_ret (v := .tuple #[.agg #[.slice ao vn vc, .int .i64 gg], .int .i64 0, .int .i64 0]) (by simp [results, Tryz.results5, go_sem, r0, r1]) rfl (HF.out _ rfl)
end Go.Proofs.YtgbdlgogccgciaaGreatDoor
namespace Go.Proofs.YtgbdlgogccgciaaGreatDoor
open Go.RowKit
attribute [local go_sem ↓] Go.wp_at_zero Go.wp_at_succ

/- MARKS WRITTEN INTO A RULE: ranges. -/
theorem ownsRow_put {W : World} {B : Nat} {e : TypeId} {sz g n cap : Nat} {xs : List Value} (h : W.ownsRow B e sz (.slice (some ⟨g, 0, none⟩) n cap) n xs) (j : Nat) (u : Value) : (W.setCell ⟨g, j, none⟩ u).ownsRow B e sz (.slice (some ⟨g, 0, none⟩) n cap) n (xs.set j u) := by
  refine ⟨by rw [List.length_set]; exact h.1, ?_⟩
  rcases h.2 with ⟨e, _⟩ | ⟨g', cap', cur, e, hg, hh, h1, h2, h3, h4⟩
  · cases e
  · cases e
    refine .inr ⟨g, cap, cur.setIfInBounds j u, rfl, hg, heap_setCell_same _ _ _ _ _ _ hh, h1, h2, by simp [h3], ?_⟩
    rw [Array.toList_setIfInBounds, List.take_set, h4]
/-- The first a cells hold the marks from k on, the others are as xs says. -/
def mxL (k : Int) (xs : List Value) (a : Nat) : List Value := (List.range xs.length).map fun j => if j < a then .int .i64 (k + (j : Int)) else xs.getD j undef
theorem mxL_zero (k : Int) (xs : List Value) : mxL k xs 0 = xs := by
  unfold mxL
  apply List.ext_getElem
  · simp
  · intro n h1 h2
    simp [List.getD, h2]
theorem mxL_set (k : Int) (xs : List Value) (a : Nat) : (mxL k xs a).set a (.int .i64 (k + (a : Int))) = mxL k xs (a + 1) := by
  unfold mxL
  apply List.ext_getElem
  · simp
  · intro n h1 h2
    rw [List.getElem_set]
    by_cases e : a = n
    · subst e; simp
    · rw [if_neg e]
      simp only [List.getElem_map, List.getElem_range]
      by_cases e2 : n < a
      · rw [if_pos e2, if_pos (by omega)]
      · rw [if_neg e2, if_neg (by omega)]
def mkR (n : Nat) (k : Int) : List (Int × Int) := (List.range n).map fun (j : Nat) => (k + 2 * (j : Int), k + 2 * (j : Int) + 1)
theorem mkR_len (n : Nat) (k : Int) : (mkR n k).length = n := by simp [mkR]
theorem mxL_all (k : Int) (rs : List (Int × Int)) : mxL k (rgC rs) (rs.length * 2) = rgC (mkR rs.length k) := by
  apply List.ext_getElem?
  intro m
  by_cases hm : m < rs.length * 2
  · have hL : (mxL k (rgC rs) (rs.length * 2))[m]? = some (.int .i64 (k + (m : Int))) := by
      unfold mxL
      rw [List.getElem?_map, List.getElem?_range (by rw [rgC_len]; exact hm)]
      simp [hm]
    rw [hL]
    have hi : m / 2 < (mkR rs.length k).length := by rw [mkR_len]; omega
    have hg := rgC_get (mkR rs.length k) (m / 2) hi
    have hv : (mkR rs.length k).getD (m / 2) (0, 0) = (k + 2 * ((m / 2 : Nat) : Int), k + 2 * ((m / 2 : Nat) : Int) + 1) := by
      unfold mkR
      have : m / 2 < rs.length := by omega
      simp [List.getD, this]
    rw [hv] at hg
    rcases Nat.mod_two_eq_zero_or_one m with e | e
    · have := hg.1
      rw [show m / 2 * 2 = m by omega] at this
      rw [this]
      congr 2
      omega
    · have := hg.2
      rw [show m / 2 * 2 + 1 = m by omega] at this
      rw [this]
      congr 2
      omega
  · rw [List.getElem?_eq_none (by unfold mxL; simp [rgC_len]; omega), List.getElem?_eq_none (by rw [rgC_len, mkR_len]; omega)]
theorem mxL_len (k : Int) (xs : List Value) (a : Nat) : (mxL k xs a).length = xs.length := by simp [mxL]
theorem own_cellZ {W : World} {B : Nat} {e : TypeId} {sz g n cap : Nat} {xs : List Value} (h : W.ownsRow B e sz (.slice (some ⟨g, 0, none⟩) n cap) n xs) {j : Nat} (hj : j < n * sz) : (∃ u, W.cell? ⟨g, j, none⟩ = some u) ∧ W.frozen? ⟨g, j, none⟩ = false := by
  refine ⟨?_, ?_⟩
  · have := h.cellAt j hj
    rw [this, List.getElem?_eq_getElem (by rw [h.1]; exact hj)]
    exact ⟨_, rfl⟩
  · rcases h.2 with ⟨e, _⟩ | ⟨g', cap', cur, e, hg, hh, _⟩
    · cases e
    · cases e; exact frozen_of_row _ _ _ _ _ hh
theorem grown_refl (W : World) (row : Option Nat) : W.grownBy W row := ⟨rfl, rfl, rfl, Nat.le_refl _, fun _ _ _ => rfl⟩
theorem grown_cellZ {W w' : World} {g : Nat} (h : W.grownBy w' (some g)) (o : Nat) (u : Value) : W.grownBy (w'.setCell ⟨g, o, none⟩ u) (some g) :=
  ⟨h.os, h.tape, h.output, by simpa [World.setCell] using h.size, fun k hk hr => by rw [heap_setCell_other _ _ _ _ (fun e => hr (by rw [e]))]; exact h.block k hk hr⟩
set_option maxRecDepth 100000 in
set_option maxHeartbeats 2000000 in
theorem markRangeS_ok {B : Nat} {v : Value} {rs : List (Int × Int)} (k : Int) (w : World) (h : RngO B w v rs) (hk : 0 ≤ k ∧ k ≤ 1000000000) (hn : rs.length ≤ 100000) :
    Calls Tryz.prog 61 #[v, .int .i64 k] w fun e w' => e = .returned (.int .i64 (k + 2 * (rs.length : Int))) ∧ RngO B w' v (mkR rs.length k) ∧ w.grownBy w' v.ownBlock := by
  rcases h.2 with ⟨rfl, h0⟩ | ⟨g, cap, cur, rfl, hg, hh, h1, h2, h3, h4⟩
  · have hr : rs = [] := List.eq_nil_of_length_eq_zero h0
    subst hr
    clear h h0
    go_enter Tryz.func61, Tryz.ntmps61
    go_wp2
    go_loopw [1, 5] (fun kv iv wr => kv = .int .i64 k ∧ iv = .int .i64 0 ∧ wr = w) (fun _ _ _ => 0)
    case atStart => exact ⟨rfl, rfl, rfl⟩
    case round =>
      obtain ⟨rfl, rfl, rfl⟩ := hrel
      go_wp2
      go_ret
      exact ⟨by simp, ⟨rfl, .inl ⟨rfl, rfl⟩⟩, grown_refl _ _⟩
  · obtain ⟨n, hnn⟩ : ∃ n, n = rs.length := ⟨_, rfl⟩
    have hO : w.ownsRow B 99 2 (.slice (some ⟨g, 0, none⟩) n cap) n (rgC rs) := by rw [hnn]; exact h
    have HO0 : Hid (w.ownsRow B 99 2 (.slice (some ⟨g, 0, none⟩) n cap) n (mxL k (rgC rs) 0)) := by rw [mxL_zero]; exact hO
    have hrl : (rgC rs).length = n * 2 := by rw [rgC_len, hnn]
    have HRL := hid hrl
    have HEND : Hid (mxL k (rgC rs) (n * 2) = rgC (mkR n k)) := by rw [hnn]; exact mxL_all k rs
    have hn2 : n ≤ 100000 := by omega
    rw [← hnn]
    have Hnn := hid hnn
    clear hh h3 h4 hO h hrl hnn hn
    go_enter Tryz.func61, Tryz.ntmps61
    go_wp2
    go_loopw [1, 5] (fun kv iv wr => ∃ i : Nat, i ≤ n ∧ kv = .int .i64 (k + 2 * (i : Int)) ∧ iv = .int .i64 (i : Int) ∧ Hid (wr.ownsRow B 99 2 (.slice (some ⟨g, 0, none⟩) n cap) n (mxL k (rgC rs) (i * 2))) ∧ Hid (w.grownBy wr (some g))) (fun _ iv _ => n - (intOf iv).toNat)
    case atStart => exact ⟨0, by omega, by go_num, rfl, HO0, grown_refl _ _⟩
    case round =>
      clear HO0
      obtain ⟨i, hi, rfl, rfl, HO, HG⟩ := hrel
      by_cases hlt : i < n
      · have hltI : (i : Int) < (n : Int) := by omega
        obtain ⟨⟨u0, c0⟩, f0⟩ := own_cellZ HO.out (j := i * 2) (by omega)
        have HO1 := ownsRow_put HO.out (i * 2) (.int .i64 (k + 2 * (i : Int)))
        rw [show k + 2 * (i : Int) = k + ((i * 2 : Nat) : Int) by omega, mxL_set] at HO1
        have HO1H := hid HO1
        clear HO1
        have HG1 := hid (grown_cellZ HG.out (i * 2) (.int .i64 (k + 2 * (i : Int))))
        rw [show k + ((i * 2 : Nat) : Int) = k + 2 * (i : Int) by omega] at HO1H
        go_upto_region 5 with fail
        generalize wr.setCell ⟨g, i * 2, none⟩ (.int .i64 (k + 2 * (i : Int))) = W2 at *
        clear c0 f0
        obtain ⟨⟨u1, c1⟩, f1⟩ := own_cellZ HO1H.out (j := i * 2 + 1) (by omega)
        have HO2 := ownsRow_put HO1H.out (i * 2 + 1) (.int .i64 (k + 2 * (i : Int) + 1))
        rw [show k + 2 * (i : Int) + 1 = k + ((i * 2 + 1 : Nat) : Int) by omega, mxL_set] at HO2
        rw [show k + ((i * 2 + 1 : Nat) : Int) = k + 2 * (i : Int) + 1 by omega, show i * 2 + 1 + 1 = (i + 1) * 2 by omega] at HO2
        have HO2H := hid HO2
        have HG2 := hid (grown_cellZ HG1.out (i * 2 + 1) (.int .i64 (k + 2 * (i : Int) + 1)))
        clear HO2 HG HO
        go_wp2
        go_roundw
        case rel => exact ⟨i + 1, by omega, by congr 1; omega, by go_num, HO2H, HG2⟩
        case measure => simp [intOf]; omega
      · have hin : i = n := by omega
        subst hin
        go_wp2
        go_ret
        exact ⟨rfl, by show World.ownsRow _ _ _ _ _ _ _; rw [mkR_len, ← HEND.out]; exact HO.out, HG.out⟩
end Go.Proofs.YtgbdlgogccgciaaGreatDoor
namespace Go.Proofs.YtgbdlgogccgciaaGreatDoor
open Go.RowKit
attribute [local go_sem ↓] Go.wp_at_zero Go.wp_at_succ

/- MARKS READ AGAIN: ranges. -/
theorem mkR_get (n : Nat) (k : Int) {i : Nat} (h : i < n) : (mkR n k).getD i (0, 0) = (k + 2 * (i : Int), k + 2 * (i : Int) + 1) := by
  unfold mkR
  simp [List.getD, h]
set_option maxRecDepth 100000 in
set_option maxHeartbeats 2000000 in
theorem heldRangeS_ok {lo : Nat} {v : Value} {n : Nat} (k : Int) (w : World) (h : RangesAt lo w v (mkR n k)) (hk : 0 ≤ k ∧ k ≤ 1000000000) (hn : n ≤ 100000) :
    Calls Tryz.prog 62 #[v, .int .i64 k] w fun e w' => e = .returned (.int .i64 (k + 2 * (n : Int))) ∧ w' = w := by
  obtain ⟨ao, cap, rfl, hm, hc⟩ := h
  rw [mkR_len] at hm ⊢
  have HC : Hid (0 < n → ∃ b o, ao = some ⟨b, o, none⟩ ∧ ∀ i, i < n → w.cell? ⟨b, o + i * 2, none⟩ = some (.int .i64 (k + 2 * (i : Int))) ∧ w.cell? ⟨b, o + i * 2 + 1, none⟩ = some (.int .i64 (k + 2 * (i : Int) + 1))) := fun h0 => by
    obtain ⟨b, o, e, _, _, h9⟩ := hc (by rw [mkR_len]; exact h0)
    refine ⟨b, o, e, fun i hi => ?_⟩
    have h8 := h9 i (by rw [mkR_len]; exact hi)
    rw [mkR_get n k hi] at h8
    exact h8
  clear hc hm
  go_enter Tryz.func62, Tryz.ntmps62
  go_wp2
  go_loopw [1, 5] (fun kv iv wr => ∃ i : Nat, i ≤ n ∧ kv = .int .i64 (k + 2 * (i : Int)) ∧ iv = .int .i64 (i : Int) ∧ wr = w) (fun _ iv _ => n - (intOf iv).toNat)
  case atStart => exact ⟨0, by omega, by go_num, rfl, rfl⟩
  case round =>
    obtain ⟨i, hi, rfl, rfl, rfl⟩ := hrel
    by_cases hlt : i < n
    · have hltI : (i : Int) < (n : Int) := by omega
      obtain ⟨b, o, rfl, h9⟩ := HC.out (by omega)
      obtain ⟨c0, c1⟩ := h9 i hlt
      clear h9 HC
      go_wp2
      go_roundw
      case rel => exact ⟨i + 1, by omega, by congr 1; omega, by go_num, trivial⟩
      case measure => simp [intOf]; omega
    · have hin : i = n := by omega
      subst hin
      go_wp2
      go_ret
      exact ⟨rfl, rfl⟩
end Go.Proofs.YtgbdlgogccgciaaGreatDoor
namespace Go.Proofs.YtgbdlgogccgciaaGreatDoor
open Go.RowKit
attribute [local go_sem ↓] Go.wp_at_zero Go.wp_at_succ

/- MARKS WRITTEN INTO NODES. -/
theorem ndC_put (ns : List NodeD) (sv : Nat → Value) {i f : Nat} (n' : NodeD) (u : Value) (hi : i < ns.length) (hf : f < 5) (hn : nd5 n' (sv i) = (nd5 (ns.getD i .zero) (sv i)).set f u) : ndC (ns.set i n') sv = (ndC ns sv).set (i * 5 + f) u := by
  apply List.ext_getElem?
  intro m
  have hl1 : (ndC (ns.set i n') sv).length = ns.length * 5 := by rw [ndC_len, List.length_set]
  have hl2 : ((ndC ns sv).set (i * 5 + f) u).length = ns.length * 5 := by rw [List.length_set, ndC_len]
  by_cases hm : m < ns.length * 5
  · have hk : m / 5 < ns.length := by omega
    have hj : m % 5 < 5 := Nat.mod_lt _ (by omega)
    have hme : m = m / 5 * 5 + m % 5 := by omega
    have hL : (ndC (ns.set i n') sv)[m]? = (nd5 ((ns.set i n').getD (m / 5) .zero) (sv (m / 5)))[m % 5]? := by
      conv => lhs; rw [hme]
      exact ndC_get _ _ (by rw [List.length_set]; exact hk) hj
    have hR : (ndC ns sv)[m]? = (nd5 (ns.getD (m / 5) .zero) (sv (m / 5)))[m % 5]? := by
      conv => lhs; rw [hme]
      exact ndC_get _ _ hk hj
    rw [hL, List.getElem?_set]
    by_cases e : m / 5 = i
    · have hg : (ns.set i n').getD (m / 5) .zero = n' := by rw [e]; simp [List.getD, hi]
      rw [hg, e, hn, List.getElem?_set]
      by_cases e2 : f = m % 5
      · rw [if_pos e2, if_pos (show f < (nd5 (ns.getD i .zero) (sv i)).length from hf), if_pos (show i * 5 + f = m by omega), if_pos (show i * 5 + f < (ndC ns sv).length by rw [ndC_len]; omega)]
      · rw [if_neg e2, if_neg (by omega), hR, e]
    · have hg : (ns.set i n').getD (m / 5) .zero = ns.getD (m / 5) .zero := by
        simp only [List.getD]
        rw [List.getElem?_set_ne (fun h => e h.symm)]
      rw [hg, if_neg (by omega), hR]
  · rw [List.getElem?_eq_none (by omega), List.getElem?_eq_none (by omega)]
theorem nodup_two {vs : List Value} (h : (vs.filterMap Value.ownBlock).Nodup) {k i b : Nat} (hk : k < vs.length) (hi : i < vs.length) (hne : k ≠ i) (h1 : (vs.getD k nilS).ownBlock = some b) (h2 : (vs.getD i nilS).ownBlock = some b) : False := by
  have h9 := List.pairwise_iff_getElem.1 (List.pairwise_filterMap.1 h)
  have g1 : vs.getD k nilS = vs[k] := by simp [List.getD, hk]
  have g2 : vs.getD i nilS = vs[i] := by simp [List.getD, hi]
  rw [g1] at h1
  rw [g2] at h2
  rcases Nat.lt_or_gt_of_ne hne with e | e
  · exact h9 k i hk hi e b h1 b h2 rfl
  · exact h9 i k hi hk e b h2 b h1 rfl
/-- One field of a node that is no set is stored. -/
theorem NdP.put {B p : Nat} {W : World} {g n cap : Nat} {ns : List NodeD} {vs : List Value} (h : NdP B p W (.slice (some ⟨g, 0, none⟩) n cap) ns vs) {i f : Nat} (n' : NodeD) (u : Value) (hi : i < ns.length) (hf : f < 5) (hn : nd5 n' (vs.getD i nilS) = (nd5 (ns.getD i .zero) (vs.getD i nilS)).set f u) (hs : n'.set = (ns.getD i .zero).set) :
    NdP B p (W.setCell ⟨g, i * 5 + f, none⟩ u) (.slice (some ⟨g, 0, none⟩) n cap) (ns.set i n') vs := by
  have hgp := h.own g rfl
  obtain ⟨hl, ho, hr⟩ := h
  have hnn : n = ns.length := by
    rcases ho.2 with ⟨e, _⟩ | ⟨g', cap', cur, e, _⟩
    · cases e
    · cases e; rfl
  subst hnn
  refine ⟨by rw [List.length_set]; exact hl, ?_, fun k hk => ?_⟩
  · rw [List.length_set, ndC_put ns _ n' u hi hf hn]
    exact ownsRow_put ho _ _
  · rw [List.length_set] at hk
    have hset : ((ns.set i n').getD k .zero).set = (ns.getD k .zero).set := by
      by_cases e : k = i
      · subst e
        rw [show (ns.set k n').getD k .zero = n' by simp [List.getD, hk]]
        exact hs
      · simp only [List.getD]
        rw [List.getElem?_set_ne (fun h => e h.symm)]
    rw [hset]
    refine ⟨ownsRow_keep (hr k hk).1 fun b hb => heap_setCell_other _ _ _ _ (fun e => ?_), (hr k hk).2⟩
    have := (hr k hk).2 b hb
    have e2 : b = g := e
    omega
/-- A set of a node has been marked. -/
theorem NdP.puts {B p : Nat} {W W' : World} {v : Value} {ns : List NodeD} {vs : List Value} (h : NdP B p W v ns vs) (hnd : (vs.filterMap Value.ownBlock).Nodup) {i : Nat} (hi : i < ns.length) (rs : List (Int × Int)) (hR : RngO B W' (vs.getD i nilS) rs) (hg : W.grownBy W' (vs.getD i nilS).ownBlock) :
    NdP B p W' v (ns.set i { ns.getD i .zero with set := rs }) vs := by
  have hown := h.own
  obtain ⟨hl, ho, hr⟩ := h
  have hnd5 : ∀ k, nd5 ((ns.set i { ns.getD i .zero with set := rs }).getD k .zero) (vs.getD k nilS) = nd5 (ns.getD k .zero) (vs.getD k nilS) := fun k => by
    by_cases e : k = i
    · subst e
      rw [show (ns.set k { ns.getD k .zero with set := rs }).getD k .zero = { ns.getD k .zero with set := rs } by simp [List.getD, hi]]
      rfl
    · simp only [List.getD]
      rw [List.getElem?_set_ne (fun h => e h.symm)]
  refine ⟨by rw [List.length_set]; exact hl, ?_, fun k hk => ?_⟩
  · have hC : ndC (ns.set i { ns.getD i .zero with set := rs }) (fun k => vs.getD k nilS) = ndC ns (fun k => vs.getD k nilS) := by
      unfold ndC
      rw [List.length_set]
      exact flat_congr _ fun k _ => hnd5 k
    rw [List.length_set, hC]
    refine ownsRow_keep ho fun b hb => hg.block b (ownsRow_blk ho hb).2 fun e => ?_
    have := (hown b hb).1
    have := (hr i hi).2 b e.symm
    omega
  · rw [List.length_set] at hk
    by_cases e : k = i
    · subst e
      rw [show (ns.set k { ns.getD k .zero with set := rs }).getD k .zero = { ns.getD k .zero with set := rs } by simp [List.getD, hi]]
      exact ⟨hR, (hr k hk).2⟩
    · have hgk : (ns.set i { ns.getD i .zero with set := rs }).getD k .zero = ns.getD k .zero := by
        simp only [List.getD]
        rw [List.getElem?_set_ne (fun h => e h.symm)]
      rw [hgk]
      refine ⟨ownsRow_keep (hr k hk).1 fun b hb => hg.block b (ownsRow_blk (hr k hk).1 hb).2 fun e2 => ?_, (hr k hk).2⟩
      exact nodup_two hnd (by rw [hl]; exact hk) (by rw [hl]; exact hi) e hb e2.symm
end Go.Proofs.YtgbdlgogccgciaaGreatDoor
