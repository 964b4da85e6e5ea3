import Derived.Test.YtplhghhfdabccaaDoorDfaOwn
import Derived.Test.YtplhghhfdabccaaDoorMark
namespace Go.Proofs.YtplhghhfdabccaaDoor
open Go.RowKit

/-- A block that is none of four. -/
def offFour (g1 g2 g3 g4 b : Nat) : Prop := b ≠ g1 ∧ b ≠ g2 ∧ b ≠ g3 ∧ b ≠ g4
theorem ne_own {g b n c : Nat} (h : b ≠ g) : (Value.slice (some ⟨g, 0, none⟩) n c).ownBlock ≠ some b := by simp [Value.ownBlock]; omega
theorem own_over {B g g' n c n' c' : Nat} {W W' : World} {xs : List Int} (h : Owns B W (.slice (some ⟨g, 0, none⟩) n c) xs) (hne : g ≠ g') (q : ∀ b, (Value.slice (some ⟨g', 0, none⟩) n' c').ownBlock ≠ some b → W'.heap[b]? = W.heap[b]?) : Owns B W' (.slice (some ⟨g, 0, none⟩) n c) xs :=
  owns_keep h fun b hb => q b (ne_own (by simp [Value.ownBlock] at hb; omega))
set_option maxRecDepth 100000 in
set_option maxHeartbeats 1000000 in
theorem markDfa_ok {B : Nat} (g1 g2 g3 g4 : Nat) (d : DfaD) (k : Int) (w : World) (h1 : Owns B w (slF g1 d.classes) d.classes) (h2 : Owns B w (slF g2 d.next) d.next) (h3 : Owns B w (slF g3 d.tag) d.tag) (h4 : Owns B w (slF g4 d.fin) d.fin) (hl : g1 < g2 ∧ g2 < g3 ∧ g3 < g4) (hsm : DfaSmall d) (hk : 0 ≤ k) (hk1 : k ≤ 1000000) (hB : B ≤ w.heap.size) :
    Calls Tryd.prog 10 #[.agg #[slF g1 d.classes, .int .i64 d.width, slF g2 d.next, slF g3 d.tag, slF g4 d.fin], .int .i64 k] w fun e w' => (∃ r : Int, 0 ≤ r ∧ e = .returned (.int .i64 r)) ∧ Below B w w' ∧ ∀ b, b < w.heap.size → offFour g1 g2 g3 g4 b → w'.heap[b]? = w.heap[b]? := by
  obtain ⟨m1, m2, m3, m4⟩ := hsm
  have e1 := own_ge h1; have e2 := own_ge h2; have e3 := own_ge h3; have e4 := own_ge h4
  have hb0 : Below w.heap.size w (w.alloc (.cells #[slF g1 d.classes, .int .i64 d.width, slF g2 d.next, slF g3 d.tag, slF g4 d.fin] 30)) := (Below.refl _ _).alloc (Nat.le_refl _) _
  have r0 := heap_alloc_new w (.cells #[slF g1 d.classes, .int .i64 d.width, slF g2 d.next, slF g3 d.tag, slF g4 d.fin] 30)
  replace h1 := own_below h1 hb0; replace h2 := own_below h2 hb0; replace h3 := own_below h3 hb0; replace h4 := own_below h4 hb0
  have K0 : ∀ b, b < w.heap.size → (w.alloc (.cells #[slF g1 d.classes, .int .i64 d.width, slF g2 d.next, slF g3 d.tag, slF g4 d.fin] 30)).heap[b]? = w.heap[b]? := fun b hb => Below.heap_alloc _ _ _ hb
  have hbB := hb0.mono hB
  unfold slF at *
  go_enter Tryd.func10, Tryd.ntmps10
  go_wp2_with fail
  refine (markIntS_ok (B := B) _ d.classes (k) _ h1 (by omega) (by omega) m1).mono ?_
  rintro e w1 ⟨rfl, _, q1, z1, b1⟩
  replace h2 := own_over h2 (by omega) q1
  replace h3 := own_over h3 (by omega) q1
  replace h4 := own_over h4 (by omega) q1
  replace r0 := (q1 w.heap.size (ne_own (by omega))).trans r0
  have K1 : ∀ b, b < w.heap.size → offFour g1 g2 g3 g4 b → w1.heap[b]? = w.heap[b]? := fun b hb ho => (q1 b (ne_own ho.1)).trans (K0 b hb)
  replace hbB := hbB.trans b1
  clear q1 z1 b1 K0
  obtain ⟨x0, x1, x2, x3, x4⟩ := row_five r0
  go_wp2_with fail
  refine (markIntS_ok (B := B) _ d.next (k + d.classes.length) _ h2 (by omega) (by omega) m2).mono ?_
  rintro e w2 ⟨rfl, _, q2, z2, b2⟩
  replace h3 := own_over h3 (by omega) q2
  replace h4 := own_over h4 (by omega) q2
  replace r0 := (q2 w.heap.size (ne_own (by omega))).trans r0
  have K2 : ∀ b, b < w.heap.size → offFour g1 g2 g3 g4 b → w2.heap[b]? = w.heap[b]? := fun b hb ho => (q2 b (ne_own ho.2.1)).trans (K1 b hb ho)
  replace hbB := hbB.trans b2
  clear q2 z2 b2 K1
  clear x0 x1 x2 x3 x4
  obtain ⟨x0, x1, x2, x3, x4⟩ := row_five r0
  go_wp2_with fail
  refine (markIntS_ok (B := B) _ d.tag (k + d.classes.length + d.next.length) _ h3 (by omega) (by omega) m3).mono ?_
  rintro e w3 ⟨rfl, _, q3, z3, b3⟩
  replace h4 := own_over h4 (by omega) q3
  replace r0 := (q3 w.heap.size (ne_own (by omega))).trans r0
  have K3 : ∀ b, b < w.heap.size → offFour g1 g2 g3 g4 b → w3.heap[b]? = w.heap[b]? := fun b hb ho => (q3 b (ne_own ho.2.2.1)).trans (K2 b hb ho)
  replace hbB := hbB.trans b3
  clear q3 z3 b3 K2
  clear x0 x1 x2 x3 x4
  obtain ⟨x0, x1, x2, x3, x4⟩ := row_five r0
  go_wp2_with fail
  refine (markIntS_ok (B := B) _ d.fin (k + d.classes.length + d.next.length + d.tag.length) _ h4 (by omega) (by omega) m4).mono ?_
  rintro e w4 ⟨rfl, _, q4, z4, b4⟩
  replace r0 := (q4 w.heap.size (ne_own (by omega))).trans r0
  have K4 : ∀ b, b < w.heap.size → offFour g1 g2 g3 g4 b → w4.heap[b]? = w.heap[b]? := fun b hb ho => (q4 b (ne_own ho.2.2.2)).trans (K3 b hb ho)
  replace hbB := hbB.trans b4
  clear q4 z4 b4 K3
  clear x0 x1 x2 x3 x4
  obtain ⟨x0, x1, x2, x3, x4⟩ := row_five r0
  go_wp2
  go_ret
  exact ⟨⟨_, by omega, rfl⟩, hbB, K4⟩
end Go.Proofs.YtplhghhfdabccaaDoor
