import Derived.Test.YtplhghhfdabccaaRun
namespace Go.Proofs.Ytplhghhfdabccaa
open Go.RowKit
attribute [local go_sem ↓] Go.wp_at_zero Go.wp_at_succ

theorem DfaAt.cells {lo : Nat} {w : World} {cv nv tv ev : Value} {d : DfaD} (hs : DfaAt lo w cv nv tv ev d) (hf : DfaFine d) {s : Int} {c : Nat} (h0 : 0 ≤ s) (h1 : s < d.tag.length) (hc : c < 256) :
    ∃ (cb co cc nb no nc : Nat), cv = .slice (some ⟨cb, co, none⟩) d.classes.length cc ∧ nv = .slice (some ⟨nb, no, none⟩) d.next.length nc ∧ d.next.length ≤ 9223372036854775807 ∧ cb < w.heap.size ∧ nb < w.heap.size ∧
      w.cell? ⟨cb, co + c, none⟩ = some (.int .i64 (clsAt d c)) ∧ w.cell? ⟨nb, no + (s * d.width + clsAt d c).toNat, none⟩ = some (.int .i64 (stepF d s c)) := by
  obtain ⟨⟨ca, cc, rfl, cm, cx⟩, ⟨na, nc, rfl, nm, nx⟩, -, -⟩ := hs
  obtain ⟨a, b, e, f, g⟩ := hf.idx h0 h1 hc
  obtain ⟨cb, co, rfl, _, cl, cq⟩ := cx (by rw [hf.cl]; omega)
  obtain ⟨nb, no, rfl, _, nl, nq⟩ := nx (by omega)
  exact ⟨cb, co, cc, nb, no, nc, rfl, rfl, nm, cl, nl, cq c (by rw [hf.cl]; omega), nq _ (by omega)⟩

set_option maxRecDepth 100000 in
set_option maxHeartbeats 1000000 in
theorem l2Go_ok {lo : Nat} (cv nv tv ev : Value) (d : DfaD) (s : Int) (c : Nat) (w : World) (hs : DfaAt lo w cv nv tv ev d) (hf : DfaFine d) (h0 : 0 ≤ s) (h1 : s < d.tag.length) (hc : c < 256) :
    Calls Try.prog 68 #[.agg #[cv, .int .i64 d.width, nv, tv, ev], .int .i64 s, .int .i64 c] w fun e w' => e = .returned (.int .i64 (stepF d s c)) ∧ Below w.heap.size w w' := by
  obtain ⟨cb, co, cc, nb, no, nc, rfl, rfl, nm, cl, nl, c0, c1⟩ := hs.cells hf h0 h1 hc
  obtain ⟨a, b, e, f, g⟩ := hf.idx h0 h1 hc
  have hcl := hf.cl
  rw [hcl]
  have w1 := hf.w1; have w2 := hf.w2
  have hn2 := hf.n2
  clear hs
  generalize clsAt d c = x at *
  generalize stepF d s c = y at *
  have hcc : (c : Int) < 256 := by omega
  have hx0 : 0 ≤ s * d.width + x := by omega
  have hx1 : s * d.width + x ≤ 2000000 := by omega
  go_enter Try.func68, Try.ntmps68
  go_wp2
  go_quiet (fail)
  go_wp2
  go_ret
  exact ⟨rfl, below_drewN ((Below.refl _ _).alloc (Nat.le_refl _) _) _⟩

set_option maxRecDepth 100000 in
set_option maxHeartbeats 1000000 in
theorem step_ok {lo : Nat} (cv nv tv ev : Value) (d : DfaD) (s : Int) (c : Nat) (w : World) (hs : DfaAt lo w cv nv tv ev d) (hf : DfaFine d) (h0 : 0 ≤ s) (h1 : s < d.tag.length) (hc : c < 256) :
    Calls Try.prog 69 #[.agg #[cv, .int .i64 d.width, nv, tv, ev], .int .i64 s, .int .i64 c] w fun e w' => e = .returned (.int .i64 (stepF d s c)) ∧ Below w.heap.size w w' := by
  obtain ⟨cb, co, cc, nb, no, nc, rfl, rfl, nm, cl, nl, c0, c1⟩ := hs.cells hf h0 h1 hc
  obtain ⟨a, b, e, f, g⟩ := hf.idx h0 h1 hc
  have hcl := hf.cl
  rw [hcl]
  have w1 := hf.w1; have w2 := hf.w2
  have hn2 := hf.n2
  clear hs
  generalize clsAt d c = x at *
  generalize stepF d s c = y at *
  have hcc : (c : Int) < 256 := by omega
  have hx0 : 0 ≤ s * d.width + x := by omega
  have hx1 : s * d.width + x ≤ 2000000 := by omega
  go_enter Try.func69, Try.ntmps69
  go_wp2
  go_quiet (fail)
  go_wp2
  go_ret
  exact ⟨rfl, below_drewN ((Below.refl _ _).alloc (Nat.le_refl _) _) _⟩

theorem wrap64_small {n : Int} (h0 : 0 ≤ n) (h1 : n ≤ 1000000000000000000) : IntKind.i64.wrap n = n := by
  simp [IntKind.wrap, IntKind.bits, IntKind.signed]; omega
theorem l2Go_at {lo : Nat} (cv nv tv ev : Value) (d : DfaD) (s ci : Int) (c : Nat) (w : World) (hci : ci = c) (hs : DfaAt lo w cv nv tv ev d) (hf : DfaFine d) (h0 : 0 ≤ s) (h1 : s < d.tag.length) (hc : c < 256) :
    Calls Try.prog 68 #[.agg #[cv, .int .i64 d.width, nv, tv, ev], .int .i64 s, .int .i64 ci] w fun e w' => e = .returned (.int .i64 (stepF d s c)) ∧ Below w.heap.size w w' := by
  subst hci; exact l2Go_ok cv nv tv ev d s c w hs hf h0 h1 hc
theorem step_at {lo : Nat} (cv nv tv ev : Value) (d : DfaD) (s ci : Int) (c : Nat) (w : World) (hci : ci = c) (hs : DfaAt lo w cv nv tv ev d) (hf : DfaFine d) (h0 : 0 ≤ s) (h1 : s < d.tag.length) (hc : c < 256) :
    Calls Try.prog 69 #[.agg #[cv, .int .i64 d.width, nv, tv, ev], .int .i64 s, .int .i64 ci] w fun e w' => e = .returned (.int .i64 (stepF d s c)) ∧ Below w.heap.size w w' := by
  subst hci; exact step_ok cv nv tv ev d s c w hs hf h0 h1 hc
end Go.Proofs.Ytplhghhfdabccaa
