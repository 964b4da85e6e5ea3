import Derived.Test.YtgbdlgogccgciaaFamMinI
import Derived.Test.YtgbdlgogccgciaaDfaTo
import Derived.Test.YtgbdlgogccgciaaMarkMarkD
namespace Go.Proofs.Ytgbdlgogccgciaa
open Go.RowKit
attribute [local go_sem ↓] Go.wp_at_zero Go.wp_at_succ

/- A COPY THAT MAY BE WRITTEN. -/
set_option maxRecDepth 100000 in
set_option maxHeartbeats 400000 in
theorem toIntS_own {lo : Nat} (v : Value) (xs : List Int) (w : World) (hs : IntsAt lo w v xs) (hn : xs.length ≤ 1048576) :
    Calls Try.prog 17 #[v] w fun e w' => e = .returned (.slice (some ⟨w.heap.size, 0, none⟩) xs.length xs.length) ∧ Owns w.heap.size w' (.slice (some ⟨w.heap.size, 0, none⟩) xs.length xs.length) xs ∧ Below w.heap.size w w' := by
  obtain ⟨ao, cap, rfl, hm, hc⟩ := hs
  obtain ⟨i0, hi, hz0, hz1, hz2⟩ := info_parts Try.infoInt
  go_enter Try.func17, Try.ntmps17
  go_wp2_with (refine wpList_make_full _ rfl _ _ 22 rfl w.heap.size 3 i0 _ 1 Try.underlying22 hi hz0 hz1 _ _ _ _ xs.length rfl rfl rfl rfl (by rw [hz2]; omega) (by unfold maxLen; omega) (Nat.le_refl _) ?_; intro w1 hown hgrow)
  have hbw : Below w.heap.size w w1 := (Below.refl _ _).grown hgrow (Nat.le_refl _) (by intro k h; cases h)
  clear hgrow
  go_loopw [4] (fun i wr => ∃ k : Nat, k ≤ xs.length ∧ i = .int .i64 k ∧ Below w.heap.size w wr ∧ ∃ zs : List Value, wr.ownsRow w.heap.size 3 1 (.slice (some ⟨w.heap.size, 0, none⟩) xs.length xs.length) xs.length zs ∧
      Filled zs 1 k (fun j => [.int .i64 (xs.getD j 0)]))
    (fun i _ => xs.length - (intOf i).toNat)
  case atStart => exact ⟨0, Nat.zero_le _, rfl, hbw, _, hown, fun j hj => absurd hj (Nat.not_lt_zero _)⟩
  case round =>
    obtain ⟨k, hk, rfl, hb, zs, hown, hfill⟩ := hrel
    by_cases hlt : k < xs.length
    · obtain ⟨b, o, x, rfl, Hn, hbl, c0⟩ := hc.elem hb hlt
      obtain ⟨u0, d0⟩ := own_cell hown (j := k) (by omega)
      have f0 := hown.frozenAt k
      go_wp2
      go_roundw
      case rel => exact ⟨k + 1, by omega, by go_num, hb.setCell (by simp) _, _, (hown.stored _ _).1, filled_one hfill (by have := hown.1; omega) (by rw [Hn.out])⟩
      case measure => simp [intOf]; omega
    · go_wp2
      have hkk : k = xs.length := by omega
      refine bodyPost_ret (v := .slice (some ⟨w.heap.size, 0, none⟩) xs.length xs.length) (by simp [results, Try.results17, go_sem]) rfl ⟨rfl, ?_, hb⟩
      rw [hkk] at hfill
      have hz : zs = xs.map intV := by
        have hl := hown.1
        apply List.ext_getElem
        · simp; omega
        · intro i h1 h2
          have hi : i < xs.length := by simpa using h2
          have := hfill i hi 0 (by omega)
          simp [List.getD, hi] at this
          have h3 : zs[i]? = some (.int .i64 xs[i]) := by simpa [h1] using this
          rw [List.getElem?_eq_getElem h1] at h3
          simp [intV, Option.some.inj h3]
      unfold Owns
      rw [← hz]
      exact hown

def slF (g : Nat) (xs : List Int) : Value := .slice (some ⟨g, 0, none⟩) xs.length xs.length
theorem own_below {B g : Nat} {W W' : World} {xs : List Int} (h : Owns B W (slF g xs) xs) (hb : Below W.heap.size W W') : Owns B W' (slF g xs) xs := owns_keep h fun b hbb => hb.block b (owns_block h hbb).2
theorem own_set {B g : Nat} {W : World} {xs : List Int} (h : Owns B W (slF g xs) xs) {a : Addr} (ha : a.block < B) (u : Value) : Owns B (W.setCell a u) (slF g xs) xs := owns_keep h fun b hbb => heap_setCell_other _ _ _ _ (by have := (owns_block h hbb).1; omega)
theorem own_mono {B B' : Nat} {W : World} {v : Value} {xs : List Int} (h : Owns B W v xs) (hB : B' ≤ B) : Owns B' W v xs := ⟨h.1, h.2.elim .inl fun ⟨g, cap, cur, hv, hb, r⟩ => .inr ⟨g, cap, cur, hv, by omega, r⟩⟩
theorem own_ge {B g : Nat} {W : World} {xs : List Int} (h : Owns B W (slF g xs) xs) : B ≤ g ∧ g < W.heap.size := owns_block h rfl

theorem toIntS_new {lo : Nat} (v : Value) (xs : List Int) (w : World) (hs : IntsAt lo w v xs) (hn : xs.length ≤ 1048576) :
    Calls Try.prog 17 #[v] w fun e w' => ∃ g, Hid (g = w.heap.size) ∧ e = .returned (.slice (some ⟨g, 0, none⟩) xs.length xs.length) ∧ Owns w.heap.size w' (slF g xs) xs ∧ Below w.heap.size w w' := by
  refine (toIntS_own v xs w hs hn).mono ?_
  rintro e w' ⟨rfl, h1, h2⟩
  exact ⟨_, rfl, rfl, h1, h2⟩

set_option maxRecDepth 100000 in
set_option maxHeartbeats 2000000 in
theorem toDfa_own {lo : Nat} (cv nv tv ev : Value) (d : DfaD) (w : World) (hs : DfaAt lo w cv nv tv ev d) (hsm : DfaSmall d) :
    Calls Try.prog 6 #[.agg #[cv, .int .i64 d.width, nv, tv, ev]] w fun e w' => ∃ g1 g2 g3 g4 : Nat, e = .returned (.agg #[slF g1 d.classes, .int .i64 d.width, slF g2 d.next, slF g3 d.tag, slF g4 d.fin]) ∧ w.heap.size ≤ g1 ∧ g1 < g2 ∧ g2 < g3 ∧ g3 < g4 ∧
      Owns w.heap.size w' (slF g1 d.classes) d.classes ∧ Owns w.heap.size w' (slF g2 d.next) d.next ∧ Owns w.heap.size w' (slF g3 d.tag) d.tag ∧ Owns w.heap.size w' (slF g4 d.fin) d.fin ∧ Below w.heap.size w w' := by
  obtain ⟨hm1, hm2, hm3, hm4⟩ := hsm
  have T := Tri.new w 24 26 26 #[cv, .int .i64 d.width, nv, tv, ev] #[.slice none 0 0, .int .i64 0, .slice none 0 0, .slice none 0 0, .slice none 0 0] #[.slice none 0 0, .int .i64 0, .slice none 0 0, .slice none 0 0, .slice none 0 0]
  go_enter Try.func6, Try.ntmps6
  go_wp2_with fail
  refine (toIntS_new _ d.classes _ (hs.below T.below).classes hm1).mono ?_
  rintro e w1 ⟨g1, Hg1, rfl, hr1, hb1⟩
  have hg1 : g1 < w1.heap.size := (own_ge hr1).2
  replace hr1 := own_mono hr1 T.size
  replace T := T.call hb1
  clear hb1 Hg1
  obtain ⟨c0, c1, c2, f1, f2⟩ := T.cells
  go_wp2_with fail
  clear c0 c1 c2 f1 f2
  replace T := (T.set 0 (.slice (some ⟨g1, 0, none⟩) d.classes.length d.classes.length)).set 1 (.int .i64 d.width)
  replace hr1 := own_set (own_set hr1 (a := ⟨w.heap.size + 1 + 1, 0, none⟩) (by simp) (.slice (some ⟨g1, 0, none⟩) d.classes.length d.classes.length)) (a := ⟨w.heap.size + 1 + 1, 1, none⟩) (by simp) (.int .i64 d.width)
  refine (toIntS_new _ d.next _ (hs.below T.below).next hm2).mono ?_
  rintro e w2 ⟨g2, Hg2, rfl, hr2, hb2⟩
  have hg2 : g2 < w2.heap.size := (own_ge hr2).2
  replace hr2 := own_mono hr2 T.size
  have hlt12 : g1 < g2 := by rw [Hg2.out]; exact (own_ge hr1).2
  replace hr1 := own_below hr1 hb2
  replace T := T.call hb2
  clear hb2 Hg2
  obtain ⟨c0, c1, c2, f1, f2⟩ := T.cells
  go_wp2_with fail
  clear c0 c1 c2 f1 f2
  replace T := T.set 2 (.slice (some ⟨g2, 0, none⟩) d.next.length d.next.length)
  replace hr1 := own_set hr1 (a := ⟨w.heap.size + 1 + 1, 2, none⟩) (by simp) (.slice (some ⟨g2, 0, none⟩) d.next.length d.next.length)
  replace hr2 := own_set hr2 (a := ⟨w.heap.size + 1 + 1, 2, none⟩) (by simp) (.slice (some ⟨g2, 0, none⟩) d.next.length d.next.length)
  refine (toIntS_new _ d.tag _ (hs.below T.below).tag hm3).mono ?_
  rintro e w3 ⟨g3, Hg3, rfl, hr3, hb3⟩
  have hg3 : g3 < w3.heap.size := (own_ge hr3).2
  replace hr3 := own_mono hr3 T.size
  have hlt23 : g2 < g3 := by rw [Hg3.out]; exact (own_ge hr2).2
  replace hr1 := own_below hr1 hb3
  replace hr2 := own_below hr2 hb3
  replace T := T.call hb3
  clear hb3 Hg3
  obtain ⟨c0, c1, c2, f1, f2⟩ := T.cells
  go_wp2_with fail
  clear c0 c1 c2 f1 f2
  replace T := T.set 3 (.slice (some ⟨g3, 0, none⟩) d.tag.length d.tag.length)
  replace hr1 := own_set hr1 (a := ⟨w.heap.size + 1 + 1, 3, none⟩) (by simp) (.slice (some ⟨g3, 0, none⟩) d.tag.length d.tag.length)
  replace hr2 := own_set hr2 (a := ⟨w.heap.size + 1 + 1, 3, none⟩) (by simp) (.slice (some ⟨g3, 0, none⟩) d.tag.length d.tag.length)
  replace hr3 := own_set hr3 (a := ⟨w.heap.size + 1 + 1, 3, none⟩) (by simp) (.slice (some ⟨g3, 0, none⟩) d.tag.length d.tag.length)
  refine (toIntS_new _ d.fin _ (hs.below T.below).fin hm4).mono ?_
  rintro e w4 ⟨g4, Hg4, rfl, hr4, hb4⟩
  have hg4 : g4 < w4.heap.size := (own_ge hr4).2
  replace hr4 := own_mono hr4 T.size
  have hlt34 : g3 < g4 := by rw [Hg4.out]; exact (own_ge hr3).2
  replace hr1 := own_below hr1 hb4
  replace hr2 := own_below hr2 hb4
  replace hr3 := own_below hr3 hb4
  replace T := T.call hb4
  clear hb4 Hg4
  obtain ⟨c0, c1, c2, f1, f2⟩ := T.cells
  have hge := (own_ge hr1).1
  go_wp2
  refine bodyPost_ret (v := .agg #[slF g1 d.classes, .int .i64 d.width, slF g2 d.next, slF g3 d.tag, slF g4 d.fin]) (by simp [results, Try.results6, go_sem, c1, slF]) rfl ⟨g1, g2, g3, g4, rfl, by omega, hlt12, hlt23, hlt34, ?_, ?_, ?_, ?_, ?_⟩
  · refine own_mono (B := w.heap.size + 1 + 1 + 1) ?_ (by omega)
    iterate 6 refine own_set ?_ (by simp) _
    exact hr1
  · refine own_mono (B := w.heap.size + 1 + 1 + 1) ?_ (by omega)
    iterate 6 refine own_set ?_ (by simp) _
    exact hr2
  · refine own_mono (B := w.heap.size + 1 + 1 + 1) ?_ (by omega)
    iterate 6 refine own_set ?_ (by simp) _
    exact hr3
  · refine own_mono (B := w.heap.size + 1 + 1 + 1) ?_ (by omega)
    iterate 6 refine own_set ?_ (by simp) _
    exact hr4
  · iterate 6 refine Below.setCell ?_ (by simp <;> omega) _
    exact T.below
end Go.Proofs.Ytgbdlgogccgciaa
namespace Go.Proofs.Ytgbdlgogccgciaa
open Go.RowKit

/-- A block that is none of four. -/
def offFour (g1 g2 g3 g4 b : Nat) : Prop := b ≠ g1 ∧ b ≠ g2 ∧ b ≠ g3 ∧ b ≠ g4
theorem ne_own {g b n c : Nat} (h : b ≠ g) : (Value.slice (some ⟨g, 0, none⟩) n c).ownBlock ≠ some b := by simp [Value.ownBlock]; omega
theorem own_over {B g g' n c n' c' : Nat} {W W' : World} {xs : List Int} (h : Owns B W (.slice (some ⟨g, 0, none⟩) n c) xs) (hne : g ≠ g') (q : ∀ b, (Value.slice (some ⟨g', 0, none⟩) n' c').ownBlock ≠ some b → W'.heap[b]? = W.heap[b]?) : Owns B W' (.slice (some ⟨g, 0, none⟩) n c) xs :=
  owns_keep h fun b hb => q b (ne_own (by simp [Value.ownBlock] at hb; omega))
set_option maxRecDepth 100000 in
set_option maxHeartbeats 1000000 in
theorem markDfa_ok {B : Nat} (g1 g2 g3 g4 : Nat) (d : DfaD) (k : Int) (w : World) (h1 : Owns B w (slF g1 d.classes) d.classes) (h2 : Owns B w (slF g2 d.next) d.next) (h3 : Owns B w (slF g3 d.tag) d.tag) (h4 : Owns B w (slF g4 d.fin) d.fin) (hl : g1 < g2 ∧ g2 < g3 ∧ g3 < g4) (hsm : DfaSmall d) (hk : 0 ≤ k) (hk1 : k ≤ 1000000) (hB : B ≤ w.heap.size) :
    Calls Try.prog 9 #[.agg #[slF g1 d.classes, .int .i64 d.width, slF g2 d.next, slF g3 d.tag, slF g4 d.fin], .int .i64 k] w fun e w' => (∃ r : Int, 0 ≤ r ∧ e = .returned (.int .i64 r)) ∧ Below B w w' ∧ ∀ b, b < w.heap.size → offFour g1 g2 g3 g4 b → w'.heap[b]? = w.heap[b]? := by
  obtain ⟨m1, m2, m3, m4⟩ := hsm
  have e1 := own_ge h1; have e2 := own_ge h2; have e3 := own_ge h3; have e4 := own_ge h4
  have hb0 : Below w.heap.size w (w.alloc (.cells #[slF g1 d.classes, .int .i64 d.width, slF g2 d.next, slF g3 d.tag, slF g4 d.fin] 26)) := (Below.refl _ _).alloc (Nat.le_refl _) _
  have r0 := heap_alloc_new w (.cells #[slF g1 d.classes, .int .i64 d.width, slF g2 d.next, slF g3 d.tag, slF g4 d.fin] 26)
  replace h1 := own_below h1 hb0; replace h2 := own_below h2 hb0; replace h3 := own_below h3 hb0; replace h4 := own_below h4 hb0
  have K0 : ∀ b, b < w.heap.size → (w.alloc (.cells #[slF g1 d.classes, .int .i64 d.width, slF g2 d.next, slF g3 d.tag, slF g4 d.fin] 26)).heap[b]? = w.heap[b]? := fun b hb => Below.heap_alloc _ _ _ hb
  have hbB := hb0.mono hB
  unfold slF at *
  go_enter Try.func9, Try.ntmps9
  go_wp2_with fail
  refine (markIntS_ok (B := B) _ d.classes (k) _ h1 (by omega) (by omega) m1).mono ?_
  rintro e w1 ⟨rfl, _, q1, z1, b1⟩
  replace h2 := own_over h2 (by omega) q1
  replace h3 := own_over h3 (by omega) q1
  replace h4 := own_over h4 (by omega) q1
  replace r0 := (q1 w.heap.size (ne_own (by omega))).trans r0
  have K1 : ∀ b, b < w.heap.size → offFour g1 g2 g3 g4 b → w1.heap[b]? = w.heap[b]? := fun b hb ho => (q1 b (ne_own ho.1)).trans (K0 b hb)
  replace hbB := hbB.trans b1
  clear q1 z1 b1 K0
  obtain ⟨x0, x1, x2, x3, x4⟩ := row_five r0
  go_wp2_with fail
  refine (markIntS_ok (B := B) _ d.next (k + d.classes.length) _ h2 (by omega) (by omega) m2).mono ?_
  rintro e w2 ⟨rfl, _, q2, z2, b2⟩
  replace h3 := own_over h3 (by omega) q2
  replace h4 := own_over h4 (by omega) q2
  replace r0 := (q2 w.heap.size (ne_own (by omega))).trans r0
  have K2 : ∀ b, b < w.heap.size → offFour g1 g2 g3 g4 b → w2.heap[b]? = w.heap[b]? := fun b hb ho => (q2 b (ne_own ho.2.1)).trans (K1 b hb ho)
  replace hbB := hbB.trans b2
  clear q2 z2 b2 K1
  clear x0 x1 x2 x3 x4
  obtain ⟨x0, x1, x2, x3, x4⟩ := row_five r0
  go_wp2_with fail
  refine (markIntS_ok (B := B) _ d.tag (k + d.classes.length + d.next.length) _ h3 (by omega) (by omega) m3).mono ?_
  rintro e w3 ⟨rfl, _, q3, z3, b3⟩
  replace h4 := own_over h4 (by omega) q3
  replace r0 := (q3 w.heap.size (ne_own (by omega))).trans r0
  have K3 : ∀ b, b < w.heap.size → offFour g1 g2 g3 g4 b → w3.heap[b]? = w.heap[b]? := fun b hb ho => (q3 b (ne_own ho.2.2.1)).trans (K2 b hb ho)
  replace hbB := hbB.trans b3
  clear q3 z3 b3 K2
  clear x0 x1 x2 x3 x4
  obtain ⟨x0, x1, x2, x3, x4⟩ := row_five r0
  go_wp2_with fail
  refine (markIntS_ok (B := B) _ d.fin (k + d.classes.length + d.next.length + d.tag.length) _ h4 (by omega) (by omega) m4).mono ?_
  rintro e w4 ⟨rfl, _, q4, z4, b4⟩
  replace r0 := (q4 w.heap.size (ne_own (by omega))).trans r0
  have K4 : ∀ b, b < w.heap.size → offFour g1 g2 g3 g4 b → w4.heap[b]? = w.heap[b]? := fun b hb ho => (q4 b (ne_own ho.2.2.2)).trans (K3 b hb ho)
  replace hbB := hbB.trans b4
  clear q4 z4 b4 K3
  clear x0 x1 x2 x3 x4
  obtain ⟨x0, x1, x2, x3, x4⟩ := row_five r0
  go_wp2
  go_ret
  exact ⟨⟨_, by omega, rfl⟩, hbB, K4⟩
end Go.Proofs.Ytgbdlgogccgciaa
