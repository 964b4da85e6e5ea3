import Derived.Test.YtgbdlgogccgciaaMinH
import Derived.Test.YtgbdlgogccgciaaLst
namespace Go.Proofs.Ytgbdlgogccgciaa
open Go.RowKit
attribute [local go_sem ↓] Go.wp_at_zero Go.wp_at_succ

set_option maxRecDepth 100000 in
set_option maxHeartbeats 4000000 in
theorem l2Apart_ok {lo : Nat} (cv nv tv ev lv : Value) (d : DfaD) (l : List Nat) (w : World) (hs : DfaAt lo w cv nv tv ev d) (hf : DfaFine d) (hl : IntsAt lo w lv (intsN l)) (hR : RchD d l) :
    Calls Try.prog 14 #[.agg #[cv, .int .i64 d.width, nv, tv, ev], lv] w (ApR w d l) := by
  have hmix : Try.prog.follows .mixedOrders = true := by kernel_rfl
  obtain ⟨i0, hi, hz0, hz1, hz2⟩ := info_parts Try.infoInt
  obtain ⟨hw, hw1, hw2⟩ := hf.wd
  rw [hw]
  clear hw
  have hs0 := hs
  obtain ⟨⟨ca, cc, rfl, cm, cx⟩, ⟨na, nc, rfl, nm, nx⟩, ⟨ta, tc, rfl, tm, tx⟩, ⟨ea, ec, rfl, em, ex⟩⟩ := hs
  obtain ⟨la, lc, rfl, lm, lx⟩ := hl
  rw [intsN_len] at *
  have hn1 := hf.n1
  have hn2 := hf.n2
  have hlen := nodup_le _ l hR.nd hR.lt
  obtain ⟨tb, to2, rfl, _, tl, tq⟩ := tx (by omega)
  obtain ⟨eb, eo2, rfl, _, el, eq⟩ := ex (by have := hf.fl; omega)
  obtain ⟨lb, lo2, rfl, _, ll, lq⟩ := lx (by rw [intsN_len]; exact hR.pos)
  rw [intsN_len] at lq
  obtain ⟨nb, no2, rfl, _, nl, nq⟩ := nx (by have := hf.nidx (s := 0) (c := 0) (by omega) (by omega); omega)
  obtain ⟨W0, hW0⟩ : ∃ W0, w.alloc (.cells #[.slice ca d.classes.length cc, .int .i64 (wdN d : Int), .slice (some ⟨nb, no2, none⟩) d.next.length nc, .slice (some ⟨tb, to2, none⟩) d.tag.length tc, .slice (some ⟨eb, eo2, none⟩) d.fin.length ec] 26) = W0 := ⟨_, rfl⟩
  have hb0 : Below w.heap.size w W0 := by rw [← hW0]; exact (Below.refl _ _).alloc (Nat.le_refl _) _
  have x0 : W0.heap[w.heap.size]? = some (.cells #[.slice ca d.classes.length cc, .int .i64 (wdN d : Int), .slice (some ⟨nb, no2, none⟩) d.next.length nc, .slice (some ⟨tb, to2, none⟩) d.tag.length tc, .slice (some ⟨eb, eo2, none⟩) d.fin.length ec] 26 (0, 0)) := by rw [← hW0]; exact heap_alloc_new _ _
  have hl0 : w.heap.size < W0.heap.size := (Array.getElem?_eq_some_iff.1 x0).1
  obtain ⟨q0, q1, q2, q3, q4⟩ := row_five x0
  go_enter Try.func14, Try.ntmps14
  go_wp2_with (refine wpList_make_full _ rfl _ _ 22 rfl W0.heap.size 3 i0 _ 1 Try.underlying22 hi hz0 hz1 _ _ _ _ d.tag.length rfl rfl rfl rfl (by rw [hz2]; omega) (by unfold maxLen; omega) (Nat.le_refl _) ?_; intro w1 hown hgrow)
  have hb1 : Below W0.heap.size W0 w1 := (Below.refl _ _).grown hgrow (Nat.le_refl _) (by intro k h; cases h)
  clear hgrow q0 q1 q2 q3 q4
  rw [made_nats] at hown
  go_loopw [30] (fun i wr => ∃ k : Nat, k ≤ l.length ∧ i = .int .i64 k ∧ Below W0.heap.size W0 wr ∧ ∃ zs : List Nat, PlI l zs d.tag.length k ∧ wr.ownsRow W0.heap.size 3 1 (.slice (some ⟨W0.heap.size, 0, none⟩) d.tag.length d.tag.length) d.tag.length (natL zs))
    (fun i _ => l.length - (intOf i).toNat)
  case atStart => exact ⟨0, Nat.zero_le _, rfl, hb1, _, ⟨by simp, fun j hj => absurd hj (Nat.not_lt_zero _)⟩, hown⟩
  case round =>
    obtain ⟨k, hk, rfl, hb, zs, hP, hown⟩ := hrel
    by_cases hlt : k < l.length
    · have hbw : Below w.heap.size w wr := hb0.trans (hb.mono hb0.size)
      have c0 := (hbw.cell (p := ⟨lb, lo2 + k, none⟩) ll).trans (lq k hlt)
      rw [intsN_get] at c0
      have hsl : l.getD k 0 < d.tag.length := hR.lt _ (by rw [List.getD_eq_getElem?_getD, List.getElem?_eq_getElem hlt]; exact List.getElem_mem _)
      have HP : Hid _ := hP.next hR.nd hlt hsl
      obtain ⟨u0, d0⟩ := own_cell hown (j := l.getD k 0) (by omega)
      have f0 := hown.frozenAt (l.getD k 0)
      have hst := (hown.stored (l.getD k 0) (.int .i64 (k : Int))).1
      rw [natL_set] at hst
      generalize l.getD k 0 = s0 at *
      have hi0 : (0 : Int) ≤ (k : Int) := by omega
      have hi1 : (k : Int) < (l.length : Int) := by omega
      have hi2 : (s0 : Int) < (d.tag.length : Int) := by omega
      go_wp2
      go_roundw
      case rel => exact ⟨k + 1, by omega, by go_num, hb.setCell (by simp) _, _, HP.out, hst⟩
      case measure => simp [intOf]; omega
    · have hkk : k = l.length := by omega
      subst hkk
      obtain ⟨W1, hW1⟩ : ∃ W1, W1 = wr := ⟨_, rfl⟩
      subst hW1
      have hx := (hb.block _ hl0).trans x0
      obtain ⟨q0, q1, q2, q3, q4⟩ := row_five hx
      have hbw : Below w.heap.size w W1 := hb0.trans (hb.mono hb0.size)
      have hg1 := own_lt hown
      have hI0 : (W1.alloc (.cells #[] 3)).ownsRow W1.heap.size 3 1 (.slice (some ⟨W1.heap.size, 0, none⟩) 0 0) 0 [] := ownsRow_new W1 3
      go_wp2
      clear q0 q1 q2 q3 q4
      go_loopw [9, 10] (fun v i wr => ∃ (c g cap : Nat), c ≤ wdN d ∧ i = .int .i64 c ∧ v = .slice (some ⟨g, 0, none⟩) (usedF d c).length cap ∧ Below W1.heap.size W1 wr ∧ wr.ownsRow W1.heap.size 3 1 (.slice (some ⟨g, 0, none⟩) (usedF d c).length cap) (usedF d c).length (natL (usedF d c)))
        (fun _ i _ => wdN d - (intOf i).toNat)
      case atStart => exact ⟨0, _, _, Nat.zero_le _, rfl, rfl, (Below.refl _ _).alloc (Nat.le_refl _) _, hI0⟩
      case round =>
        obtain ⟨c, g, cap, hc, rfl, rfl, hb2, hown2⟩ := hrel
        have hx2 := (hb2.block _ (Nat.lt_of_lt_of_le hl0 hb.size)).trans hx
        obtain ⟨q0, q1, q2, q3, q4⟩ := row_five hx2
        by_cases hcl : c < wdN d
        · have hbx : Below w.heap.size w wr := hbw.trans (hb2.mono hbw.size)
          have hpl := l2Place_ok _ d.classes c wr (hs0.classes.below hbx)
          have Hused : Hid (0 ≤ plF d.classes c ↔ (c : Int) ∈ d.classes) := plF_mem
          have Husucc : Hid _ := usedF_succ d c
          have hul := usedF_len d c
          have hB := hb2.size
          generalize plF d.classes (c : Int) = pu at *
          have hi3 : (c : Int) < (wdN d : Int) := by omega
          by_cases hu : 0 ≤ pu
          · go_wp2_with (first | (go_at_call 16; refine hpl.mono ?_; rintro e w' ⟨rfl, hw'⟩; subst w') | (refine wpList_append_oneH wr _ rfl rfl (.tmp 52) (.tmp 54) 22 rfl W1.heap.size 3 i0 (.int .i64 0) 8 Try.underlying22 hi hz0 hz1 hz2 rfl g cap (usedF d c).length (natL (usedF d c)) (.int .i64 (c : Int)) rfl hown2 rfl rfl (by omega) (by omega) hB ?_; intro g' cap' w5 hown5 hgrow5 hat))
            go_roundw
            case rel =>
              have e : usedF d (c + 1) = usedF d c ++ [c] := by rw [Husucc.out, if_pos (Hused.out.1 (by omega))]
              refine ⟨c + 1, g', cap', by omega, by go_num, by rw [e]; simp, hb2.grown hgrow5 hB (fun q hq => by cases hq; exact (own_form hown2).1), ?_⟩
              rw [e, natL_snoc]
              simpa using hown5
            case measure => simp [intOf]; omega
          · go_wp2_with (go_at_call 16; refine hpl.mono ?_; rintro e w' ⟨rfl, hw'⟩; subst w')
            go_roundw
            case rel =>
              have e : usedF d (c + 1) = usedF d c := by rw [Husucc.out, if_neg (fun k => by have := Hused.out.2 k; omega)]
              exact ⟨c + 1, g, cap, by omega, by go_num, by rw [e], hb2, by rw [e]; exact hown2⟩
            case measure => simp [intOf]; omega
        · have hcc : c = wdN d := by omega
          subst hcc
          obtain ⟨W2, hW2⟩ : ∃ W2, W2 = wr := ⟨_, rfl⟩
          subst hW2
          have hbw2 : Below w.heap.size w W2 := hbw.trans (hb2.mono hbw.size)
          have hO0 : (W2.alloc (.cells #[] 37)).ownsRow W2.heap.size 37 1 (.slice (some ⟨W2.heap.size, 0, none⟩) 0 0) 0 [] := ownsRow_new W2 37
          have hM0 : MatI W2.heap.size (W2.alloc (.cells #[] 37)) l.length 0 (.slice (some ⟨W2.heap.size, 0, none⟩) 0 0) (fun _ => 0) (ansM d l) := ⟨hO0, fun x hx => absurd hx (Nat.not_lt_zero _), fun x hx => absurd hx (Nat.not_lt_zero _), fun x _ hx => absurd hx (Nat.not_lt_zero _)⟩
          obtain ⟨iB, hjB, hyB0, hyB1, hyB2⟩ := info_parts Try.infoBoolM
          obtain ⟨iS, hjS, hyS0, hyS1, hyS2⟩ := info_parts Try.infoBoolsM
          go_wp2
          clear q0 q1 q2 q3 q4
          go_loopw [11, 12] (fun v i wr => ∃ (x g cap : Nat) (gr : Nat → Nat), v = .slice (some ⟨g, 0, none⟩) x cap ∧ x ≤ l.length ∧ i = .int .i64 x ∧ Below W2.heap.size W2 wr ∧ MatI W2.heap.size wr l.length x (.slice (some ⟨g, 0, none⟩) x cap) gr (ansM d l))
            (fun _ i _ => l.length - (intOf i).toNat)
          case atStart => exact ⟨0, _, _, _, rfl, Nat.zero_le _, rfl, (Below.refl _ _).alloc (Nat.le_refl _) _, hM0⟩
          case round =>
            obtain ⟨x, g3, cap3, gr, rfl, hxl, rfl, hb3, hM⟩ := hrel
            by_cases hx3 : x < l.length
            · obtain ⟨W3, hW3⟩ : ∃ W3, W3 = wr := ⟨_, rfl⟩
              subst hW3
              have hz3 := hb3.size
              go_wp2_with (refine wpList_make_full _ rfl _ _ 37 rfl W3.heap.size 4 iB _ 1 Try.underlying37 hjB hyB0 hyB1 _ _ _ _ l.length rfl rfl rfl rfl (by rw [hyB2]; omega) (by unfold maxLen; omega) (Nat.le_refl _) ?_; intro w4 hown4 hgrow4)
              have r4 := own_fullM hown4
              rw [made_bools] at r4
              have hb4 : Below W3.heap.size W3 w4 := (Below.refl _ _).grown hgrow4 (Nat.le_refl _) (by intro k h; cases h)
              have hb34 : Below W2.heap.size W2 w4 := hb3.trans (hb4.mono hz3)
              have hw4 : Below w.heap.size w w4 := hbw2.trans (hb34.mono hbw2.size)
              have hs4 := hb4.size
              have hI4 : w4.heap[W3.heap.size]? = some (.cells (blRow l.length (fun j => decide (j < 0) && ansM d l x j)) 4 (0, 0)) := by rw [r4]; congr 3
              have x4 := (hb34.block _ (by have := hb.size; have := hb2.size; omega)).trans ((hb2.block _ (by have := hb.size; omega)).trans hx)
              clear hown4 hgrow4 r4
              go_loopw [14] (fun i wr => ∃ y : Nat, y ≤ l.length ∧ i = .int .i64 y ∧ w4.grownBy wr (some W3.heap.size) ∧ wr.heap[W3.heap.size]? = some (.cells (blRow l.length (fun j => decide (j < y) && ansM d l x j)) 4 (0, 0)))
                (fun i _ => l.length - (intOf i).toNat)
              case atStart => exact ⟨0, Nat.zero_le _, rfl, World.grownBy.refl _ _, hI4⟩
              case round =>
                obtain ⟨y, hy, rfl, hg, hr⟩ := hrel
                have hlw : w.heap.size < W3.heap.size := by have := hb.size; have := hb2.size; omega
                have hgl : W3.heap.size < w4.heap.size := (Array.getElem?_eq_some_iff.1 hI4).1
                have hkc : ∀ b o : Nat, b ≤ w.heap.size → wr.cell? ⟨b, o, none⟩ = w4.cell? ⟨b, o, none⟩ := fun b o h => World.cell?_of_block (hg.block b (by omega) (by simp; omega))
                have hx5 := (hg.block _ (by omega) (by simp; omega)).trans x4
                by_cases hy3 : y < l.length
                · obtain ⟨q0, q1, q2, q3, q4⟩ := row_five hx5
                  have cx0 := (hkc lb (lo2 + x) (by omega)).trans ((hw4.cell (p := ⟨lb, lo2 + x, none⟩) ll).trans (lq x hx3))
                  have cy0 := (hkc lb (lo2 + y) (by omega)).trans ((hw4.cell (p := ⟨lb, lo2 + y, none⟩) ll).trans (lq y hy3))
                  rw [intsN_get] at cx0 cy0
                  have hsx : l.getD x 0 < d.tag.length := hR.lt _ (by rw [List.getD_eq_getElem?_getD, List.getElem?_eq_getElem hx3]; exact List.getElem_mem _)
                  have hsy : l.getD y 0 < d.tag.length := hR.lt _ (by rw [List.getD_eq_getElem?_getD, List.getElem?_eq_getElem hy3]; exact List.getElem_mem _)
                  have hfl := hf.fl
                  have tcx := (hkc tb (to2 + l.getD x 0) (by omega)).trans ((hw4.cell (p := ⟨tb, to2 + l.getD x 0, none⟩) tl).trans (tq _ hsx))
                  have tcy := (hkc tb (to2 + l.getD y 0) (by omega)).trans ((hw4.cell (p := ⟨tb, to2 + l.getD y 0, none⟩) tl).trans (tq _ hsy))
                  have fcx := (hkc eb (eo2 + l.getD x 0) (by omega)).trans ((hw4.cell (p := ⟨eb, eo2 + l.getD x 0, none⟩) el).trans (eq _ (by omega)))
                  have fcy := (hkc eb (eo2 + l.getD y 0) (by omega)).trans ((hw4.cell (p := ⟨eb, eo2 + l.getD y 0, none⟩) el).trans (eq _ (by omega)))
                  have HA : Hid (ansM d l x y = (!(d.tag.getD (l.getD x 0) 0 == d.tag.getD (l.getD y 0) 0) || !(d.fin.getD (l.getD x 0) 0 == d.fin.getD (l.getD y 0) 0))) := rfl
                  have rc : wr.cell? ⟨W3.heap.size, y, none⟩ = some (.bool false) := by rw [cell_of_row _ _ _ _ _ _ hr, blRow_get _ _ hy3]; simp
                  have rf := frozen_of_row _ _ y _ _ hr
                  have rs : (wr.drew.cell? ⟨W3.heap.size, y, none⟩).isSome = true := by show (wr.cell? ⟨W3.heap.size, y, none⟩).isSome = true; rw [rc]; rfl
                  have HN : Hid (∀ b : Bool, b = ansM d l x y → (wr.setCell ⟨W3.heap.size, y, none⟩ (.bool b)).heap[W3.heap.size]? = some (.cells (blRow l.length (fun j => decide (j < y + 1) && ansM d l x j)) 4 (0, 0))) := fun b hbe => by
                    have := heap_setCell_same wr W3.heap.size y _ _ (.bool b) hr
                    rw [blRow_set] at this
                    rw [this, hbe]
                    congr 3
                    funext j
                    by_cases e : j = y
                    · subst e; rw [if_pos rfl]; simp
                    · rw [if_neg e]
                      congr 1
                      rw [decide_eq_decide]
                      omega
                  generalize d.tag.getD (l.getD x 0) 0 = t1 at *
                  generalize d.tag.getD (l.getD y 0) 0 = t2 at *
                  generalize d.fin.getD (l.getD x 0) 0 = f1 at *
                  generalize d.fin.getD (l.getD y 0) 0 = f2 at *
                  generalize l.getD x 0 = sx at *
                  generalize l.getD y 0 = sy at *
                  have hi5 : (x : Int) < (l.length : Int) := by omega
                  have hi6 : (y : Int) < (l.length : Int) := by omega
                  have hi7 : (sx : Int) < (d.tag.length : Int) := by omega
                  have hi8 : (sy : Int) < (d.tag.length : Int) := by omega
                  have hi9 : (sx : Int) < (d.fin.length : Int) := by omega
                  have hi10 : (sy : Int) < (d.fin.length : Int) := by omega
                  clear hM hx5 x4 hx hkc hr hfl
                  have hst : ∀ b : Bool, b = ansM d l x y → ∀ nq : Nat, w4.grownBy ((wr.drewN nq).setCell ⟨W3.heap.size, y, none⟩ (.bool b)) (some W3.heap.size) ∧ ((wr.drewN nq).setCell ⟨W3.heap.size, y, none⟩ (.bool b)).heap[W3.heap.size]? = some (.cells (blRow l.length (fun j => decide (j < y + 1) && ansM d l x j)) 4 (0, 0)) := fun b hb nq => ⟨hg.trans (grown_putD wr W3.heap.size y nq (.bool b)), HN.out b hb⟩
                  have HS : Hid _ := hst
                  clear hst
                  by_cases e1 : t1 = t2
                  · have hne : (t1 != t2) = false := by simp [e1]
                    have hnd : decide (t1 = t2) = true := by simp [e1]
                    by_cases e2 : f1 = f2
                    · have hnf : (f1 != f2) = false := by simp [e2]
                      go_wp2
                      refine wp_region_lastN 39 hmix (by kernel_rfl) rfl rfl rfl ?_
                      intro os hos
                      simp only [List.take_succ_cons, List.take_zero] at hos
                      subst hos
                      repeat (go_big_quiet_step (fail))
                      refine wpQuiet_nil ?_
                      intro w' hw' K hK
                      obtain ⟨nq, rfl⟩ := hw'
                      first | go_big_move | go_big_op
                      refine hK _ _ ?_
                      go_wp2
                      go_roundw
                      case rel =>
                        obtain ⟨k1, k2⟩ := HS.out false (by rw [HA.out]; simp [e1, e2]) nq
                        exact ⟨y + 1, by omega, by go_num, k1, k2⟩
                      case measure => simp [intOf]; omega
                    · have hnf : (f1 != f2) = true := by simp [e2]
                      go_wp2
                      refine wp_region_lastN 39 hmix (by kernel_rfl) rfl rfl rfl ?_
                      intro os hos
                      simp only [List.take_succ_cons, List.take_zero] at hos
                      subst hos
                      repeat (go_big_quiet_step (fail))
                      refine wpQuiet_nil ?_
                      intro w' hw' K hK
                      obtain ⟨nq, rfl⟩ := hw'
                      first | go_big_move | go_big_op
                      refine hK _ _ ?_
                      go_wp2
                      go_roundw
                      case rel =>
                        obtain ⟨k1, k2⟩ := HS.out true (by rw [HA.out]; simp [e2]) nq
                        exact ⟨y + 1, by omega, by go_num, k1, k2⟩
                      case measure => simp [intOf]; omega
                  · have hne : (t1 != t2) = true := by simp [e1]
                    go_wp2
                    refine wp_region_lastN 39 hmix (by kernel_rfl) rfl rfl rfl ?_
                    intro os hos
                    simp only [List.take_succ_cons, List.take_zero] at hos
                    subst hos
                    repeat (go_big_quiet_step (fail))
                    refine wpQuiet_nil ?_
                    intro w' hw' K hK
                    obtain ⟨nq, rfl⟩ := hw'
                    first | go_big_move | go_big_op
                    refine hK _ _ ?_
                    go_wp2
                    go_roundw
                    case rel =>
                      obtain ⟨k1, k2⟩ := HS.out true (by rw [HA.out]; simp [e1]) nq
                      exact ⟨y + 1, by omega, by go_num, k1, k2⟩
                    case measure => simp [intOf]; omega
                · have hyy : y = l.length := by omega
                  subst hyy
                  have hr' : wr.heap[W3.heap.size]? = some (.cells (blRow l.length (ansM d l x)) 4 (0, 0)) := by
                    rw [hr, blRow_congr (g := ansM d l x) (fun j hj => by simp [hj])]
                  have hbr : Below W3.heap.size W3 wr := hb4.grown hg hs4 (fun q hq => by cases hq; exact Nat.le_refl _)
                  have hM' := hM.below hbr
                  have hB3 : W2.heap.size ≤ wr.heap.size := Nat.le_trans hz3 hbr.size
                  have HF : Hid (∀ j, j < x → gr j ≠ W3.heap.size) := fun j hj => Nat.ne_of_lt (Array.getElem?_eq_some_iff.1 (hM.rows j hj)).1
                  clear hr hg hI4 x4 hkc hx5 hM
                  go_wp2_with (refine wpList_append_oneH wr _ rfl rfl (.tmp 108) (.tmp 110) 35 rfl W2.heap.size 37 iS (.slice none 0 0) 24 Try.underlying35 hjS hyS0 hyS1 hyS2 rfl g3 cap3 x (slcB gr l.length x) (.slice (some ⟨W3.heap.size, 0, none⟩) l.length l.length) rfl hM'.out rfl rfl (by omega) (by omega) hB3 ?_; intro g' cap' w5 hown5 hgrow5 hat)
                  go_roundw
                  case rel =>
                    have hm5 := hM'.more hr' hz3 HF.out hgrow5 hown5
                    exact ⟨x + 1, g', cap', _, rfl, by omega, by go_num, (hb3.trans (hbr.mono hz3)).grown hgrow5 hB3 (fun q hq => by cases hq; exact (own_form hM'.out).1), hm5⟩
                  case measure => simp [intOf]; omega
            · have hxx : x = l.length := by omega
              subst hxx
              have hw2s := hbw2.size
              have hB0 : w.heap.size ≤ W2.heap.size := hbw2.size
              have HC : Hid (∀ W, Below W2.heap.size W2 W → W.heap[w.heap.size]? = some (.cells #[.slice ca d.classes.length cc, .int .i64 (wdN d : Int), .slice (some ⟨nb, no2, none⟩) d.next.length nc, .slice (some ⟨tb, to2, none⟩) d.tag.length tc, .slice (some ⟨eb, eo2, none⟩) d.fin.length ec] 26 (0, 0)) ∧
                  (∀ j, j < l.length → W.cell? ⟨lb, lo2 + j, none⟩ = some (.int .i64 ((l.getD j 0 : Nat) : Int))) ∧
                  (∀ s c, s < d.tag.length → c < wdN d → W.cell? ⟨nb, no2 + (s * wdN d + c), none⟩ = some (.int .i64 ((nxN d s c : Nat) : Int))) ∧
                  (∀ j, j < d.tag.length → W.cell? ⟨W0.heap.size, j, none⟩ = some (.int .i64 ((zs.getD j 0 : Nat) : Int))) ∧
                  (∀ i, i < (usedF d (wdN d)).length → W.cell? ⟨g, i, none⟩ = some (.int .i64 (((usedF d (wdN d)).getD i 0 : Nat) : Int)))) := fun W hW => by
                have hWw : Below w.heap.size w W := hbw2.trans (hW.mono hB0)
                refine ⟨(hW.block _ (by have := hb.size; have := hb2.size; omega)).trans ((hb2.block _ (by have := hb.size; omega)).trans hx), fun j hj => ?_, fun s c hs hc => ?_, fun j hj => ?_, fun i hi => ?_⟩
                · rw [hWw.cell (p := ⟨lb, lo2 + j, none⟩) ll, lq j hj, intsN_get]
                · rw [hWw.cell (p := ⟨nb, no2 + (s * wdN d + c), none⟩) nl, nq _ (hf.nidx hs hc), (hf.nx hs hc).1]
                · rw [hW.cell (p := ⟨W0.heap.size, j, none⟩) (by have := hb2.size; show W0.heap.size < _; omega), hb2.cell (p := ⟨W0.heap.size, j, none⟩) hg1, hown.cellAt j (by omega), natL_get _ (by rw [hP.1]; exact hj)]
                · rw [hW.cell (p := ⟨g, i, none⟩) (own_lt hown2), hown2.cellAt i (by omega), natL_get _ hi]
              have HR : Hid (RchD d l) := hR
              have HP : Hid (PlI l zs d.tag.length l.length) := hP
              have HF : Hid (DfaFine d) := hf
              have HBW : Hid (Below w.heap.size w W2) := hbw2
              have HM : Hid (MatI W2.heap.size wr l.length l.length (.slice (some ⟨g3, 0, none⟩) l.length cap3) gr (ansM d l)) := hM
              have hpos := hR.pos
              have hul := usedF_len d (wdN d)
              have hMb : ∀ m' : Nat → Nat → Bool, ∀ W, MatI W2.heap.size W l.length l.length (.slice (some ⟨g3, 0, none⟩) l.length cap3) gr m' → W2.heap.size ≤ W.heap.size := fun m' W h => Nat.le_of_lt (Nat.lt_of_le_of_lt (own_form h.out).1 (own_form h.out).2.1)
              have Hmb : Hid _ := hMb
              clear hM hR hP hf hown hown2 hbw hbw2 hb0 hb1 hb hb2 hx x0 cx nx tx ex lx lq ll nq nl tq tl eq el hs0 hM0 hO0 hjB hyB0 hyB1 hyB2 hjS hyS0 hyS1 hyS2 hI0 hz0 hz1 hz2 hi hMb
              go_wp2
              go_loopw [15] (fun gv wr => ∃ (b : Bool) (m : Nat → Nat → Bool), gv = .bool b ∧ Below W2.heap.size W2 wr ∧ MatI W2.heap.size wr l.length l.length (.slice (some ⟨g3, 0, none⟩) l.length cap3) gr m ∧ Hid (ApI d l m ∧ (b = false → ∀ x y, x < l.length → y < l.length → (m x y = false ↔ Alike (stN d) (anN d) (l.getD x 0) (l.getD y 0)))))
                (fun gv wr => 2 * restW W2.heap.size l.length (.slice (some ⟨g3, 0, none⟩) l.length cap3) gr wr + bitV gv)
              case atStart => exact ⟨true, _, rfl, hb3, HM.out, ansM_start d l, fun e => by cases e⟩
              case round =>
                clear HM hb3
                obtain ⟨b, m0, rfl, hb5, hM5, HA5⟩ := hrel
                obtain ⟨W5, hW5⟩ : ∃ W5, W5 = wr := ⟨_, rfl⟩
                subst hW5
                have HM5 : Hid _ := hM5
                clear hM5
                cases b
                · go_wp2
                  refine bodyPost_ret (v := .slice (some ⟨g3, 0, none⟩) l.length cap3) (by simp [results, Try.results14, go_sem]) rfl ⟨_, gr, m0, W2.heap.size, rfl, hB0, HM5.out, HBW.out.trans (hb5.mono hB0), HA5.out.2 (by first | exact rfl | trivial)⟩
                · go_wp2
                  go_loopw [15, 16] (fun gv i wr => ∃ (b : Bool) (m : Nat → Nat → Bool) (x : Nat), gv = .bool b ∧ i = .int .i64 x ∧ x ≤ l.length ∧ Below W2.heap.size W2 wr ∧ MatI W2.heap.size wr l.length l.length (.slice (some ⟨g3, 0, none⟩) l.length cap3) gr m ∧ Hid (PassI d l m0 b m (DonX l.length x 0)))
                    (fun _ i _ => l.length - (intOf i).toNat)
                  case atStart => exact ⟨false, _, 0, rfl, rfl, Nat.zero_le _, hb5, HM5.out, PassI.start HA5.out.1 (fun x y h => by unfold DonX at h; omega)⟩
                  case round =>
                    clear hb5
                    obtain ⟨b, m, x, rfl, rfl, hxl, hb6, hM6, HS6⟩ := hrel
                    obtain ⟨W6, hW6⟩ : ∃ W6, W6 = wr := ⟨_, rfl⟩
                    subst hW6
                    have HM6 : Hid _ := hM6
                    clear hM6
                    by_cases hx6 : x < l.length
                    · have hi6 : (x : Int) < (l.length : Int) := by omega
                      go_wp2
                      go_loopw [15, 17] (fun gv i wr => ∃ (b : Bool) (m : Nat → Nat → Bool) (y : Nat), gv = .bool b ∧ i = .int .i64 y ∧ y ≤ l.length ∧ Below W2.heap.size W2 wr ∧ MatI W2.heap.size wr l.length l.length (.slice (some ⟨g3, 0, none⟩) l.length cap3) gr m ∧ Hid (PassI d l m0 b m (DonX l.length x y)))
                        (fun _ i _ => l.length - (intOf i).toNat)
                      case atStart => exact ⟨b, m, 0, rfl, rfl, Nat.zero_le _, hb6, HM6.out, HS6⟩
                      case round =>
                        clear hb6 HS6 HM6
                        obtain ⟨b, m, y, rfl, rfl, hyl, hb7, hM7, HS7⟩ := hrel
                        obtain ⟨W7, hW7⟩ : ∃ W7, W7 = wr := ⟨_, rfl⟩
                        subst hW7
                        by_cases hy7 : y < l.length
                        · have hi7 : (y : Int) < (l.length : Int) := by omega
                          have o7 := hM7.out1 hx6
                          have c7 := (hM7.cell hx6 hy7).1
                          have HM7 : Hid _ := hM7
                          clear hM7
                          cases hmb : m x y
                          · rw [hmb] at c7
                            go_wp2
                            go_loopw [15, 132] (fun gv i wr => ∃ (b : Bool) (m : Nat → Nat → Bool) (k : Nat), gv = .bool b ∧ i = .int .i64 k ∧ k ≤ (usedF d (wdN d)).length ∧ Below W2.heap.size W2 wr ∧ MatI W2.heap.size wr l.length l.length (.slice (some ⟨g3, 0, none⟩) l.length cap3) gr m ∧ Hid (PassI d l m0 b m (DonX l.length x y) ∧ (b = false → m0 x y = false ∧ ∀ j, j < k → clo1 d l m0 x y ((usedF d (wdN d)).getD j 0))))
                              (fun _ i _ => (usedF d (wdN d)).length - (intOf i).toNat)
                            case atStart => exact ⟨b, m, 0, rfl, rfl, Nat.zero_le _, hb7, HM7.out, HS7.out, fun e => ⟨by rw [← (HS7.out.same e).1]; exact hmb, fun j hj => absurd hj (Nat.not_lt_zero _)⟩⟩
                            case round =>
                              clear c7 o7 hb7 HS7 HM7 hmb
                              obtain ⟨b, m, k, rfl, rfl, hkl, hb8, hM8, HS8⟩ := hrel
                              by_cases hk8 : k < (usedF d (wdN d)).length
                              · obtain ⟨hbox, hL, hN, hZ, hU⟩ := HC.out wr hb8
                                obtain ⟨q0, q1, q2, q3, q4⟩ := row_five hbox
                                have cu := hU k hk8
                                have hcm := getD_mem hk8
                                have hcw := (usedF_mem.1 hcm).1
                                obtain ⟨px, ch, hpx, epx, hch, ech, pzx⟩ := used_to HF.out HR.out HP.out hx6 hcm
                                obtain ⟨py, ch', hpy, epy, _, _, pzy⟩ := used_to HF.out HR.out HP.out hy7 hcm
                                have hsx := HR.out.lt _ (getD_mem hx6)
                                have hsy := HR.out.lt _ (getD_mem hy7)
                                have cx0 := hL x hx6
                                have cy0 := hL y hy7
                                have nx1 := hN _ _ hsx hcw
                                have ny1 := hN _ _ hsy hcw
                                have hxn := (HF.out.nx hsx hcw).2
                                have hyn := (HF.out.nx hsy hcw).2
                                have zx := hZ _ hxn
                                have zy := hZ _ hyn
                                rw [pzx] at zx
                                rw [pzy] at zy
                                obtain ⟨P1, eP1, p11, p12, p13, p14, p15⟩ := idx_facts (s := l.getD x 0) (by omega) hw2 (HF.out.nidx hsx hcw)
                                obtain ⟨P2, eP2, p21, p22, p23, p24, p25⟩ := idx_facts (s := l.getD y 0) (by omega) hw2 (HF.out.nidx hsy hcw)
                                rw [← p15] at nx1
                                rw [← p25] at ny1
                                have o1 := hM8.out1 hpx
                                have c1 := (hM8.cell hpx hpy).1
                                have o2 := hM8.out1 hx6
                                have c2 := (hM8.cell hx6 hy7).1
                                have f2 := (hM8.cell hx6 hy7).2
                                have HNO : Hid (m px py = false → (b = false → m0 x y = false ∧ ∀ j, j < k + 1 → clo1 d l m0 x y ((usedF d (wdN d)).getD j 0))) := fun e hb => by
                                  obtain ⟨k1, k2⟩ := HS8.out.2 hb
                                  refine ⟨k1, fun j hj => ?_⟩
                                  by_cases ej : j = k
                                  · subst ej
                                    exact clo1_no HR.out hpx hpy epx epy (by rw [← (HS8.out.1.same hb).1]; exact e)
                                  · exact k2 j (by omega)
                                have HYES : Hid (m px py = true → PassI d l m0 true (putM m x y) (DonX l.length x y)) := fun e => HS8.out.1.put hx6 hy7 (fun hb => (HS8.out.2 hb).1) hpx hpy (by rw [epx]; unfold stN; rw [ech]) (by rw [epy]; unfold stN; rw [ech]) hch e
                                have HPUT : Hid (∀ W, MatI W2.heap.size W l.length l.length (.slice (some ⟨g3, 0, none⟩) l.length cap3) gr m → MatI W2.heap.size (W.setCell ⟨gr x, y, none⟩ (.bool true)) l.length l.length (.slice (some ⟨g3, 0, none⟩) l.length cap3) gr (putM m x y)) := fun W h => h.put hx6 y
                                have hgx := hM8.base x hx6
                                have hi1 : (px : Int) < (l.length : Int) := by omega
                                have hi2 : (py : Int) < (l.length : Int) := by omega
                                have hi3 : (k : Int) < ((usedF d (wdN d)).length : Int) := by omega
                                have hi4 : ((nxN d (l.getD x 0) ((usedF d (wdN d)).getD k 0) : Nat) : Int) < (d.tag.length : Int) := by omega
                                have hi5 : ((nxN d (l.getD y 0) ((usedF d (wdN d)).getD k 0) : Nat) : Int) < (d.tag.length : Int) := by omega
                                have HM8 : Hid _ := hM8
                                have hz8 := hb8.size
                                clear hM8 hbox hL hN hZ hU hcm pzx pzy epx epy p15 p25 hxn hyn
                                generalize nxN d (l.getD x 0) ((usedF d (wdN d)).getD k 0) = tsx at *
                                generalize nxN d (l.getD y 0) ((usedF d (wdN d)).getD k 0) = tsy at *
                                generalize l.getD x 0 = sx at *
                                generalize l.getD y 0 = sy at *
                                generalize hcc : (usedF d (wdN d)).getD k 0 = cc at *
                                clear hcc
                                generalize hmv : m px py = mv at *
                                clear hmv
                                cases mv
                                · go_wp2
                                  go_quiet (fail)
                                  obtain ⟨n1, hn1⟩ : ∃ n1, n1 = nq := ⟨_, rfl⟩
                                  subst hn1
                                  go_wp2
                                  go_quiet (fail)
                                  go_wp2
                                  go_roundw
                                  case rel => exact ⟨b, m, k + 1, rfl, by go_num, by omega, below_drewN hb8 _, HM8.out.below (below_drewN (Below.refl _ _) _), HS8.out.1, HNO.out (by first | exact rfl | trivial)⟩
                                  case measure => simp [intOf]; omega
                                · go_wp2
                                  go_quiet (fail)
                                  obtain ⟨n1, hn1⟩ : ∃ n1, n1 = nq := ⟨_, rfl⟩
                                  subst hn1
                                  go_wp2
                                  go_quiet (fail)
                                  go_wp2
                                  go_roundw
                                  case rel => exact ⟨true, putM m x y, k + 1, rfl, by go_num, by omega, (below_drewN hb8 _).setCell hgx _, HPUT.out _ (HM8.out.below (below_drewN (Below.refl _ _) _)), HYES.out (by first | exact rfl | trivial), fun e => by cases e⟩
                                  case measure => simp [intOf]; omega
                              · have hkk : k = (usedF d (wdN d)).length := by omega
                                subst hkk
                                go_wp2
                                go_roundw
                                case rel =>
                                  refine ⟨b, m, y + 1, rfl, by go_num, by omega, hb8, hM8, HS8.out.1.done fun a c h => ?_⟩
                                  by_cases e : a = x ∧ c = y
                                  · obtain ⟨rfl, rfl⟩ := e
                                    exact .inr fun e h0 c hc => by
                                      obtain ⟨j, hj, ej⟩ := idx_of hc
                                      rw [← ej]
                                      exact (HS8.out.2 e).2 j hj
                                  · exact .inl (by unfold DonX at *; omega)
                                case measure => simp [intOf]; omega
                          · rw [hmb] at c7
                            go_wp2
                            go_roundw
                            case rel =>
                              refine ⟨b, m, y + 1, rfl, by go_num, by omega, hb7, HM7.out, HS7.out.done fun a c h => ?_⟩
                              by_cases e : a = x ∧ c = y
                              · obtain ⟨rfl, rfl⟩ := e
                                exact .inr fun e h0 => by rw [← (HS7.out.same e).1, hmb] at h0; cases h0
                              · exact .inl (by unfold DonX at *; omega)
                            case measure => simp [intOf]; omega
                        · have hyy : y = l.length := by omega
                          subst hyy
                          go_wp2
                          go_roundw
                          case rel => exact ⟨b, m, x + 1, rfl, by go_num, by omega, hb7, hM7, HS7.out.done fun a c h => .inl (by unfold DonX at *; omega)⟩
                          case measure => simp [intOf]; omega
                    · have hxx : x = l.length := by omega
                      subst hxx
                      go_wp2
                      go_roundw
                      case rel =>
                        refine ⟨b, m, rfl, hb6, HM6.out, HS6.out.ap, fun e => ?_⟩
                        subst e
                        exact fun x y hx hy => PassI.end HF.out HR.out (HS6.out.done fun a c h => .inl (by unfold DonX; omega)) hx hy
                      case measure =>
                        rw [restW_eq HM6.out, restW_eq HM5.out]
                        cases b
                        · rw [(HS6.out.same rfl).1]; simp [bitV]
                        · have := HS6.out.grew rfl; simp [bitV]; omega
end Go.Proofs.Ytgbdlgogccgciaa
