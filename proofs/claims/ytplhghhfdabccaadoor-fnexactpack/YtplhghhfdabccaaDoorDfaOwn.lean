import Derived.Test.YtplhghhfdabccaaDoorFam
import Derived.Test.YtplhghhfdabccaaDoorDfaTo
namespace Go.Proofs.YtplhghhfdabccaaDoor
open Go.RowKit
attribute [local go_sem ↓] Go.wp_at_zero Go.wp_at_succ

/- A COPY THAT MAY BE WRITTEN. -/
set_option maxRecDepth 100000 in
set_option maxHeartbeats 400000 in
theorem toIntS_own {lo : Nat} (v : Value) (xs : List Int) (w : World) (hs : IntsAt lo w v xs) (hn : xs.length ≤ 1048576) :
    Calls Tryd.prog 17 #[v] w fun e w' => e = .returned (.slice (some ⟨w.heap.size, 0, none⟩) xs.length xs.length) ∧ Owns w.heap.size w' (.slice (some ⟨w.heap.size, 0, none⟩) xs.length xs.length) xs ∧ Below w.heap.size w w' := by
  obtain ⟨ao, cap, rfl, hm, hc⟩ := hs
  obtain ⟨i0, hi, hz0, hz1, hz2⟩ := info_parts Tryd.infoInt
  go_enter Tryd.func17, Tryd.ntmps17
  go_wp2_with (refine wpList_make_full _ rfl _ _ 22 rfl w.heap.size 3 i0 _ 1 Tryd.underlying22 hi hz0 hz1 _ _ _ _ xs.length rfl rfl rfl rfl (by rw [hz2]; omega) (by unfold maxLen; omega) (Nat.le_refl _) ?_; intro w1 hown hgrow)
  have hbw : Below w.heap.size w w1 := (Below.refl _ _).grown hgrow (Nat.le_refl _) (by intro k h; cases h)
  clear hgrow
  go_loopw [4] (fun i wr => ∃ k : Nat, k ≤ xs.length ∧ i = .int .i64 k ∧ Below w.heap.size w wr ∧ ∃ zs : List Value, wr.ownsRow w.heap.size 3 1 (.slice (some ⟨w.heap.size, 0, none⟩) xs.length xs.length) xs.length zs ∧
      Filled zs 1 k (fun j => [.int .i64 (xs.getD j 0)]))
    (fun i _ => xs.length - (intOf i).toNat)
  case atStart => exact ⟨0, Nat.zero_le _, rfl, hbw, _, hown, fun j hj => absurd hj (Nat.not_lt_zero _)⟩
  case round =>
    obtain ⟨k, hk, rfl, hb, zs, hown, hfill⟩ := hrel
    by_cases hlt : k < xs.length
    · obtain ⟨b, o, x, rfl, Hn, hbl, c0⟩ := hc.elem hb hlt
      obtain ⟨u0, d0⟩ := own_cell hown (j := k) (by omega)
      have f0 := hown.frozenAt k
      go_wp2
      go_roundw
      case rel => exact ⟨k + 1, by omega, by go_num, hb.setCell (by simp) _, _, (hown.stored _ _).1, filled_one hfill (by have := hown.1; omega) (by rw [Hn.out])⟩
      case measure => simp [intOf]; omega
    · go_wp2
      have hkk : k = xs.length := by omega
      refine bodyPost_ret (v := .slice (some ⟨w.heap.size, 0, none⟩) xs.length xs.length) (by simp [results, Tryd.results17, go_sem]) rfl ⟨rfl, ?_, hb⟩
      rw [hkk] at hfill
      have hz : zs = xs.map intV := by
        have hl := hown.1
        apply List.ext_getElem
        · simp; omega
        · intro i h1 h2
          have hi : i < xs.length := by simpa using h2
          have := hfill i hi 0 (by omega)
          simp [List.getD, hi] at this
          have h3 : zs[i]? = some (.int .i64 xs[i]) := by simpa [h1] using this
          rw [List.getElem?_eq_getElem h1] at h3
          simp [intV, Option.some.inj h3]
      unfold Owns
      rw [← hz]
      exact hown

def slF (g : Nat) (xs : List Int) : Value := .slice (some ⟨g, 0, none⟩) xs.length xs.length
theorem own_below {B g : Nat} {W W' : World} {xs : List Int} (h : Owns B W (slF g xs) xs) (hb : Below W.heap.size W W') : Owns B W' (slF g xs) xs := owns_keep h fun b hbb => hb.block b (owns_block h hbb).2
theorem own_set {B g : Nat} {W : World} {xs : List Int} (h : Owns B W (slF g xs) xs) {a : Addr} (ha : a.block < B) (u : Value) : Owns B (W.setCell a u) (slF g xs) xs := owns_keep h fun b hbb => heap_setCell_other _ _ _ _ (by have := (owns_block h hbb).1; omega)
theorem own_mono {B B' : Nat} {W : World} {v : Value} {xs : List Int} (h : Owns B W v xs) (hB : B' ≤ B) : Owns B' W v xs := ⟨h.1, h.2.elim .inl fun ⟨g, cap, cur, hv, hb, r⟩ => .inr ⟨g, cap, cur, hv, by omega, r⟩⟩
theorem own_ge {B g : Nat} {W : World} {xs : List Int} (h : Owns B W (slF g xs) xs) : B ≤ g ∧ g < W.heap.size := owns_block h rfl

theorem toIntS_new {lo : Nat} (v : Value) (xs : List Int) (w : World) (hs : IntsAt lo w v xs) (hn : xs.length ≤ 1048576) :
    Calls Tryd.prog 17 #[v] w fun e w' => ∃ g, Hid (g = w.heap.size) ∧ e = .returned (.slice (some ⟨g, 0, none⟩) xs.length xs.length) ∧ Owns w.heap.size w' (slF g xs) xs ∧ Below w.heap.size w w' := by
  refine (toIntS_own v xs w hs hn).mono ?_
  rintro e w' ⟨rfl, h1, h2⟩
  exact ⟨_, rfl, rfl, h1, h2⟩

set_option maxRecDepth 100000 in
set_option maxHeartbeats 2000000 in
theorem toDfa_own {lo : Nat} (cv nv tv ev : Value) (d : DfaD) (w : World) (hs : DfaAt lo w cv nv tv ev d) (hsm : DfaSmall d) :
    Calls Tryd.prog 6 #[.agg #[cv, .int .i64 d.width, nv, tv, ev]] w fun e w' => ∃ g1 g2 g3 g4 : Nat, e = .returned (.agg #[slF g1 d.classes, .int .i64 d.width, slF g2 d.next, slF g3 d.tag, slF g4 d.fin]) ∧ w.heap.size ≤ g1 ∧ g1 < g2 ∧ g2 < g3 ∧ g3 < g4 ∧
      Owns w.heap.size w' (slF g1 d.classes) d.classes ∧ Owns w.heap.size w' (slF g2 d.next) d.next ∧ Owns w.heap.size w' (slF g3 d.tag) d.tag ∧ Owns w.heap.size w' (slF g4 d.fin) d.fin ∧ Below w.heap.size w w' := by
  obtain ⟨hm1, hm2, hm3, hm4⟩ := hsm
  have T := Tri.new w 24 30 30 #[cv, .int .i64 d.width, nv, tv, ev] #[.slice none 0 0, .int .i64 0, .slice none 0 0, .slice none 0 0, .slice none 0 0] #[.slice none 0 0, .int .i64 0, .slice none 0 0, .slice none 0 0, .slice none 0 0]
  go_enter Tryd.func6, Tryd.ntmps6
  go_wp2_with fail
  refine (toIntS_new _ d.classes _ (hs.below T.below).classes hm1).mono ?_
  rintro e w1 ⟨g1, Hg1, rfl, hr1, hb1⟩
  have hg1 : g1 < w1.heap.size := (own_ge hr1).2
  replace hr1 := own_mono hr1 T.size
  replace T := T.call hb1
  clear hb1 Hg1
  obtain ⟨c0, c1, c2, f1, f2⟩ := T.cells
  go_wp2_with fail
  clear c0 c1 c2 f1 f2
  replace T := (T.set 0 (.slice (some ⟨g1, 0, none⟩) d.classes.length d.classes.length)).set 1 (.int .i64 d.width)
  replace hr1 := own_set (own_set hr1 (a := ⟨w.heap.size + 1 + 1, 0, none⟩) (by simp) (.slice (some ⟨g1, 0, none⟩) d.classes.length d.classes.length)) (a := ⟨w.heap.size + 1 + 1, 1, none⟩) (by simp) (.int .i64 d.width)
  refine (toIntS_new _ d.next _ (hs.below T.below).next hm2).mono ?_
  rintro e w2 ⟨g2, Hg2, rfl, hr2, hb2⟩
  have hg2 : g2 < w2.heap.size := (own_ge hr2).2
  replace hr2 := own_mono hr2 T.size
  have hlt12 : g1 < g2 := by rw [Hg2.out]; exact (own_ge hr1).2
  replace hr1 := own_below hr1 hb2
  replace T := T.call hb2
  clear hb2 Hg2
  obtain ⟨c0, c1, c2, f1, f2⟩ := T.cells
  go_wp2_with fail
  clear c0 c1 c2 f1 f2
  replace T := T.set 2 (.slice (some ⟨g2, 0, none⟩) d.next.length d.next.length)
  replace hr1 := own_set hr1 (a := ⟨w.heap.size + 1 + 1, 2, none⟩) (by simp) (.slice (some ⟨g2, 0, none⟩) d.next.length d.next.length)
  replace hr2 := own_set hr2 (a := ⟨w.heap.size + 1 + 1, 2, none⟩) (by simp) (.slice (some ⟨g2, 0, none⟩) d.next.length d.next.length)
  refine (toIntS_new _ d.tag _ (hs.below T.below).tag hm3).mono ?_
  rintro e w3 ⟨g3, Hg3, rfl, hr3, hb3⟩
  have hg3 : g3 < w3.heap.size := (own_ge hr3).2
  replace hr3 := own_mono hr3 T.size
  have hlt23 : g2 < g3 := by rw [Hg3.out]; exact (own_ge hr2).2
  replace hr1 := own_below hr1 hb3
  replace hr2 := own_below hr2 hb3
  replace T := T.call hb3
  clear hb3 Hg3
  obtain ⟨c0, c1, c2, f1, f2⟩ := T.cells
  go_wp2_with fail
  clear c0 c1 c2 f1 f2
  replace T := T.set 3 (.slice (some ⟨g3, 0, none⟩) d.tag.length d.tag.length)
  replace hr1 := own_set hr1 (a := ⟨w.heap.size + 1 + 1, 3, none⟩) (by simp) (.slice (some ⟨g3, 0, none⟩) d.tag.length d.tag.length)
  replace hr2 := own_set hr2 (a := ⟨w.heap.size + 1 + 1, 3, none⟩) (by simp) (.slice (some ⟨g3, 0, none⟩) d.tag.length d.tag.length)
  replace hr3 := own_set hr3 (a := ⟨w.heap.size + 1 + 1, 3, none⟩) (by simp) (.slice (some ⟨g3, 0, none⟩) d.tag.length d.tag.length)
  refine (toIntS_new _ d.fin _ (hs.below T.below).fin hm4).mono ?_
  rintro e w4 ⟨g4, Hg4, rfl, hr4, hb4⟩
  have hg4 : g4 < w4.heap.size := (own_ge hr4).2
  replace hr4 := own_mono hr4 T.size
  have hlt34 : g3 < g4 := by rw [Hg4.out]; exact (own_ge hr3).2
  replace hr1 := own_below hr1 hb4
  replace hr2 := own_below hr2 hb4
  replace hr3 := own_below hr3 hb4
  replace T := T.call hb4
  clear hb4 Hg4
  obtain ⟨c0, c1, c2, f1, f2⟩ := T.cells
  have hge := (own_ge hr1).1
  go_wp2
  refine bodyPost_ret (v := .agg #[slF g1 d.classes, .int .i64 d.width, slF g2 d.next, slF g3 d.tag, slF g4 d.fin]) (by simp [results, Tryd.results6, go_sem, c1, slF]) rfl ⟨g1, g2, g3, g4, rfl, by omega, hlt12, hlt23, hlt34, ?_, ?_, ?_, ?_, ?_⟩
  · refine own_mono (B := w.heap.size + 1 + 1 + 1) ?_ (by omega)
    iterate 6 refine own_set ?_ (by simp) _
    exact hr1
  · refine own_mono (B := w.heap.size + 1 + 1 + 1) ?_ (by omega)
    iterate 6 refine own_set ?_ (by simp) _
    exact hr2
  · refine own_mono (B := w.heap.size + 1 + 1 + 1) ?_ (by omega)
    iterate 6 refine own_set ?_ (by simp) _
    exact hr3
  · refine own_mono (B := w.heap.size + 1 + 1 + 1) ?_ (by omega)
    iterate 6 refine own_set ?_ (by simp) _
    exact hr4
  · iterate 6 refine Below.setCell ?_ (by simp <;> omega) _
    exact T.below
end Go.Proofs.YtplhghhfdabccaaDoor
