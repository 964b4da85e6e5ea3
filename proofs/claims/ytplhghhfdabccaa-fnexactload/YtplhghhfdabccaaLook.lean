import Derived.Test.YtplhghhfdabccaaTabS
import Derived.Test.YtplhghhfdabccaaRow
namespace Go.Proofs.Ytplhghhfdabccaa
open Go.RowKit
attribute [local go_sem ↓] Go.wp_at_zero Go.wp_at_succ

/- LOOKING A TABLE UP. -/
def baseAt (d : TabD) (s : Nat) : Int := d.base.getD s 0
def tclsAt (d : TabD) (c : Nat) : Int := d.classes.getD c 0
def chkAt (d : TabD) (k : Nat) : Int := d.chk.getD k 0
def tnextAt (d : TabD) (k : Nat) : Int := d.next.getD k 0
def dfltAt (d : TabD) (s : Nat) : Int := d.dflt.getD s 0
def slotOf (d : TabD) (s c : Nat) : Nat := (baseAt d s + tclsAt d c).toNat
def lookF (d : TabD) (s c : Nat) : Int := if slotOf d s c < d.chk.length ∧ chkAt d (slotOf d s c) = s then tnextAt d (slotOf d s c) else dfltAt d s
/-- What Lookup answers. -/
def lookB (d : TabD) (s c : Int) : Int := if tabB d && btw s 0 (d.base.length - 1) && btw c 0 255 then lookF d s.toNat c.toNat else -1

structure TabFine (d : TabD) : Prop where
  cl : d.classes.length = 256
  w1 : 1 ≤ d.width
  w2 : d.width ≤ 256
  cs : allIn 0 (d.width - 1) d.classes = true
  n1 : 1 ≤ (d.base.length : Int)
  n2 : (d.base.length : Int) ≤ 4000
  dl : d.dflt.length = d.base.length
  tl : d.tag.length = d.base.length
  el : d.fin.length = d.base.length
  nk : d.next.length = d.chk.length
  nm : d.next.length ≤ 60000
  fr : freeB d.chk d.next = true
  bs : allIn 0 59999 d.base = true
  ds : allIn 0 (d.base.length - 1) d.dflt = true
  ts : allIn (-1) 99 d.tag = true
  es : allIn (-1) 99 d.fin = true
  ks : allIn (-1) (d.base.length - 1) d.chk = true
  ns : allIn 0 (d.base.length - 1) d.next = true
theorem tabB_fine {d : TabD} (h : tabB d = true) : TabFine d := by
  simp only [tabB, Bool.and_eq_true, decide_eq_true_eq, btw_iff] at h
  obtain ⟨⟨⟨⟨⟨⟨⟨⟨⟨a, b⟩, c⟩, e⟩, f⟩, g⟩, i⟩, j⟩, k⟩, l, ⟨⟨⟨⟨m, n⟩, o⟩, p⟩, q⟩, r⟩ := h
  exact ⟨a, b.1, b.2, c, e.1, e.2, f, g, i, j, k, l, m, n, o, p, q, r⟩

theorem TabFine.bd {d : TabD} (h : TabFine d) {s c : Nat} (hs : s < d.base.length) (hc : c < 256) :
    0 ≤ baseAt d s ∧ baseAt d s ≤ 59999 ∧ 0 ≤ tclsAt d c ∧ tclsAt d c ≤ 255 ∧ ((slotOf d s c : Nat) : Int) = baseAt d s + tclsAt d c := by
  have a := allIn_at h.bs (k := s) hs
  have b := allIn_at h.cs (k := c) (by rw [h.cl]; exact hc)
  have w2 := h.w2
  unfold slotOf baseAt tclsAt
  omega

set_option maxRecDepth 100000 in
set_option maxHeartbeats 1000000 in
theorem l3Go_out {lo : Nat} (cv bv fv tv ev nv kv : Value) (d : TabD) (s c : Nat) (w : World) (hs : TabAt lo w cv bv fv tv ev nv kv d) (hf : TabFine d) (hs0 : s < d.base.length) (hc : c < 256) (h : ¬slotOf d s c < d.chk.length) :
    Calls Try.prog 71 #[.agg #[cv, .int .i64 d.width, bv, fv, tv, ev, nv, kv], .int .i64 s, .int .i64 c] w fun e w' => e = .returned (.int .i64 (lookF d s c)) ∧ Below w.heap.size w w' := by
  obtain ⟨⟨a0, p0, rfl, m0, y0⟩, ⟨a1, p1, rfl, m1, y1⟩, ⟨a2, p2, rfl, m2, y2⟩, ⟨a3, p3, rfl, m3, y3⟩, ⟨a4, p4, rfl, m4, y4⟩, ⟨a5, p5, rfl, m5, y5⟩, ⟨a6, p6, rfl, m6, y6⟩⟩ := hs
  have hcl := hf.cl; have hn1 := hf.n1; have hn2 := hf.n2; have hdl := hf.dl; have hnk := hf.nk; have hnm := hf.nm
  obtain ⟨x0, x1, z0, z1, hsl⟩ := hf.bd hs0 hc
  obtain ⟨cb, co, rfl, _, cl, cq⟩ := y0 (by omega)
  obtain ⟨bb, bo, rfl, _, bl, bq⟩ := y1 (by omega)
  obtain ⟨fb, fo, rfl, _, fl, fq⟩ := y2 (by omega)
  have c0 : w.cell? ⟨cb, co + c, none⟩ = some (.int .i64 (tclsAt d c)) := cq c (by omega)
  have b0 : w.cell? ⟨bb, bo + s, none⟩ = some (.int .i64 (baseAt d s)) := bq s hs0
  have f0 : w.cell? ⟨fb, fo + s, none⟩ = some (.int .i64 (dfltAt d s)) := fq s (by omega)
  have i0 : (0 : Int) ≤ (s : Int) := by omega
  have i1 : (s : Int) < (d.base.length : Int) := by omega
  have i2 : (0 : Int) ≤ (c : Int) := by omega
  have i3 : (c : Int) < (d.classes.length : Int) := by omega
  have i4 : (s : Int) < (d.dflt.length : Int) := by omega
  have H : Hid (lookF d s c = dfltAt d s) := by show _ = _; unfold lookF; rw [if_neg (fun k => h k.1)]
  have i5 : ¬baseAt d s + tclsAt d c < (d.chk.length : Int) := by omega
  clear y3 y4 y5 y6 cq bq fq hsl h
  generalize baseAt d s = x at *
  generalize tclsAt d c = y at *
  generalize dfltAt d s = z at *
  go_enter Try.func71, Try.ntmps71
  go_wp2
  go_quiet (fail)
  go_wp2
  go_ret
  exact ⟨ret_int H.out.symm, below_drewN ((Below.refl _ _).alloc (Nat.le_refl _) _) _⟩

set_option maxRecDepth 100000 in
set_option maxHeartbeats 1000000 in
theorem l3Go_other {lo : Nat} (cv bv fv tv ev nv kv : Value) (d : TabD) (s c : Nat) (w : World) (hs : TabAt lo w cv bv fv tv ev nv kv d) (hf : TabFine d) (hs0 : s < d.base.length) (hc : c < 256) (h : slotOf d s c < d.chk.length) (h2 : ¬chkAt d (slotOf d s c) = s) :
    Calls Try.prog 71 #[.agg #[cv, .int .i64 d.width, bv, fv, tv, ev, nv, kv], .int .i64 s, .int .i64 c] w fun e w' => e = .returned (.int .i64 (lookF d s c)) ∧ Below w.heap.size w w' := by
  obtain ⟨⟨a0, p0, rfl, m0, y0⟩, ⟨a1, p1, rfl, m1, y1⟩, ⟨a2, p2, rfl, m2, y2⟩, ⟨a3, p3, rfl, m3, y3⟩, ⟨a4, p4, rfl, m4, y4⟩, ⟨a5, p5, rfl, m5, y5⟩, ⟨a6, p6, rfl, m6, y6⟩⟩ := hs
  have hcl := hf.cl; have hn1 := hf.n1; have hn2 := hf.n2; have hdl := hf.dl; have hnk := hf.nk; have hnm := hf.nm
  obtain ⟨x0, x1, z0, z1, hsl⟩ := hf.bd hs0 hc
  obtain ⟨cb, co, rfl, _, cl, cq⟩ := y0 (by omega)
  obtain ⟨bb, bo, rfl, _, bl, bq⟩ := y1 (by omega)
  obtain ⟨fb, fo, rfl, _, fl, fq⟩ := y2 (by omega)
  have c0 : w.cell? ⟨cb, co + c, none⟩ = some (.int .i64 (tclsAt d c)) := cq c (by omega)
  have b0 : w.cell? ⟨bb, bo + s, none⟩ = some (.int .i64 (baseAt d s)) := bq s hs0
  have f0 : w.cell? ⟨fb, fo + s, none⟩ = some (.int .i64 (dfltAt d s)) := fq s (by omega)
  have i0 : (0 : Int) ≤ (s : Int) := by omega
  have i1 : (s : Int) < (d.base.length : Int) := by omega
  have i2 : (0 : Int) ≤ (c : Int) := by omega
  have i3 : (c : Int) < (d.classes.length : Int) := by omega
  have i4 : (s : Int) < (d.dflt.length : Int) := by omega
  obtain ⟨kb, ko, rfl, _, kl, kq⟩ := y6 (by omega)
  have k0 : w.cell? ⟨kb, ko + (baseAt d s + tclsAt d c).toNat, none⟩ = some (.int .i64 (chkAt d (slotOf d s c))) := kq (slotOf d s c) h
  have i5 : baseAt d s + tclsAt d c < (d.chk.length : Int) := by omega
  have H : Hid (lookF d s c = dfltAt d s) := by show _ = _; unfold lookF; rw [if_neg (fun k => h2 k.2)]
  clear y3 y4 y5 cq bq fq hsl h kq
  generalize chkAt d (slotOf d s c) = q at *
  generalize baseAt d s = x at *
  generalize tclsAt d c = y at *
  generalize dfltAt d s = z at *
  go_enter Try.func71, Try.ntmps71
  go_wp2
  go_quiet (fail)
  go_wp2
  go_ret
  exact ⟨ret_int H.out.symm, below_drewN ((Below.refl _ _).alloc (Nat.le_refl _) _) _⟩

set_option maxRecDepth 100000 in
set_option maxHeartbeats 1000000 in
theorem l3Go_own {lo : Nat} (cv bv fv tv ev nv kv : Value) (d : TabD) (s c : Nat) (w : World) (hs : TabAt lo w cv bv fv tv ev nv kv d) (hf : TabFine d) (hs0 : s < d.base.length) (hc : c < 256) (h : slotOf d s c < d.chk.length) (h2 : chkAt d (slotOf d s c) = s) :
    Calls Try.prog 71 #[.agg #[cv, .int .i64 d.width, bv, fv, tv, ev, nv, kv], .int .i64 s, .int .i64 c] w fun e w' => e = .returned (.int .i64 (lookF d s c)) ∧ Below w.heap.size w w' := by
  obtain ⟨⟨a0, p0, rfl, m0, y0⟩, ⟨a1, p1, rfl, m1, y1⟩, ⟨a2, p2, rfl, m2, y2⟩, ⟨a3, p3, rfl, m3, y3⟩, ⟨a4, p4, rfl, m4, y4⟩, ⟨a5, p5, rfl, m5, y5⟩, ⟨a6, p6, rfl, m6, y6⟩⟩ := hs
  have hcl := hf.cl; have hn1 := hf.n1; have hn2 := hf.n2; have hdl := hf.dl; have hnk := hf.nk; have hnm := hf.nm
  obtain ⟨x0, x1, z0, z1, hsl⟩ := hf.bd hs0 hc
  obtain ⟨cb, co, rfl, _, cl, cq⟩ := y0 (by omega)
  obtain ⟨bb, bo, rfl, _, bl, bq⟩ := y1 (by omega)
  obtain ⟨fb, fo, rfl, _, fl, fq⟩ := y2 (by omega)
  have c0 : w.cell? ⟨cb, co + c, none⟩ = some (.int .i64 (tclsAt d c)) := cq c (by omega)
  have b0 : w.cell? ⟨bb, bo + s, none⟩ = some (.int .i64 (baseAt d s)) := bq s hs0
  have f0 : w.cell? ⟨fb, fo + s, none⟩ = some (.int .i64 (dfltAt d s)) := fq s (by omega)
  have i0 : (0 : Int) ≤ (s : Int) := by omega
  have i1 : (s : Int) < (d.base.length : Int) := by omega
  have i2 : (0 : Int) ≤ (c : Int) := by omega
  have i3 : (c : Int) < (d.classes.length : Int) := by omega
  have i4 : (s : Int) < (d.dflt.length : Int) := by omega
  obtain ⟨kb, ko, rfl, _, kl, kq⟩ := y6 (by omega)
  have k0 : w.cell? ⟨kb, ko + (baseAt d s + tclsAt d c).toNat, none⟩ = some (.int .i64 (chkAt d (slotOf d s c))) := kq (slotOf d s c) h
  have i5 : baseAt d s + tclsAt d c < (d.chk.length : Int) := by omega
  obtain ⟨nb, no, rfl, _, nl, nq⟩ := y5 (by omega)
  have n0 : w.cell? ⟨nb, no + (baseAt d s + tclsAt d c).toNat, none⟩ = some (.int .i64 (tnextAt d (slotOf d s c))) := nq (slotOf d s c) (by omega)
  have i6 : baseAt d s + tclsAt d c < (d.next.length : Int) := by omega
  have H : Hid (lookF d s c = tnextAt d (slotOf d s c)) := by show _ = _; unfold lookF; rw [if_pos ⟨h, h2⟩]
  rw [h2] at k0
  clear y3 y4 cq bq fq hsl h kq nq h2
  generalize tnextAt d (slotOf d s c) = q at *
  generalize baseAt d s = x at *
  generalize tclsAt d c = y at *
  generalize dfltAt d s = z at *
  go_enter Try.func71, Try.ntmps71
  go_wp2
  go_quiet (fail)
  go_wp2
  go_ret
  exact ⟨ret_int H.out.symm, below_drewN ((Below.refl _ _).alloc (Nat.le_refl _) _) _⟩

theorem l3Go_ok {lo : Nat} (cv bv fv tv ev nv kv : Value) (d : TabD) (s c : Nat) (w : World) (hs : TabAt lo w cv bv fv tv ev nv kv d) (hf : TabFine d) (hs0 : s < d.base.length) (hc : c < 256) :
    Calls Try.prog 71 #[.agg #[cv, .int .i64 d.width, bv, fv, tv, ev, nv, kv], .int .i64 s, .int .i64 c] w fun e w' => e = .returned (.int .i64 (lookF d s c)) ∧ Below w.heap.size w w' := by
  by_cases h : slotOf d s c < d.chk.length
  · by_cases h2 : chkAt d (slotOf d s c) = s
    · exact l3Go_own cv bv fv tv ev nv kv d s c w hs hf hs0 hc h h2
    · exact l3Go_other cv bv fv tv ev nv kv d s c w hs hf hs0 hc h h2
  · exact l3Go_out cv bv fv tv ev nv kv d s c w hs hf hs0 hc h

set_option maxRecDepth 100000 in
set_option maxHeartbeats 1000000 in
theorem specLookup_ok {lo : Nat} (cv bv fv tv ev nv kv : Value) (d : TabD) (s c : Int) (w : World) (hs : TabAt lo w cv bv fv tv ev nv kv d) :
    Calls Try.prog 31 #[.agg #[cv, .int .i64 d.width, bv, fv, tv, ev, nv, kv], .int .i64 s, .int .i64 c] w fun e w' => e = .returned (.int .i64 (lookB d s c)) ∧ Below w.heap.size w w' := by
  have hb0 : Below w.heap.size w (w.alloc (.cells #[cv, .int .i64 d.width, bv, fv, tv, ev, nv, kv] 48)) := (Below.refl _ _).alloc (Nat.le_refl _) _
  have r0 : (w.alloc (.cells #[cv, .int .i64 d.width, bv, fv, tv, ev, nv, kv] 48)).heap[w.heap.size]? = some (.cells #[cv, .int .i64 d.width, bv, fv, tv, ev, nv, kv] 48 (0, 0)) := heap_alloc_new _ _
  have bl : ∃ ba bc, bv = .slice ba d.base.length bc := by obtain ⟨ba, bc, h, _⟩ := hs.base; exact ⟨ba, bc, h⟩
  obtain ⟨ba, bc, rfl⟩ := bl
  go_enter Try.func31, Try.ntmps31
  go_wp2_with fail
  refine (specTableOK_ok _ _ _ _ _ _ _ d _ (hs.below hb0)).mono ?_
  rintro e w1 ⟨rfl, hb1⟩
  have hbb1 := below_step hb0 hb0.size hb1
  have r1 := row_below r0 hb1
  obtain ⟨x0, x1, x2, x3, x4, x5, x6, x7⟩ := row_eight r1
  clear hb1
  cases hB : tabB d
  case false =>
    have H : Hid (lookB d s c = -1) := by show _ = _; simp [lookB, hB]
    go_wp2
    go_ret
    exact ⟨ret_int H.out.symm, hbb1⟩
  have hf := tabB_fine hB
  have hn1 := hf.n1; have hn2 := hf.n2
  cases hT : btw s 0 (d.base.length - 1)
  case false =>
    have H : Hid (lookB d s c = -1) := by show _ = _; simp [lookB, hT]
    go_wp2_with (go_at_call 54; refine (between_ok _ _ _ _).mono ?_; rintro e w' ⟨rfl, rfl⟩)
    go_ret
    exact ⟨ret_int H.out.symm, hbb1⟩
  cases hC : btw c 0 255
  case false =>
    have H : Hid (lookB d s c = -1) := by show _ = _; simp [lookB, hC]
    go_wp2_with (go_at_call 54; refine (between_ok _ _ _ _).mono ?_; rintro e w' ⟨rfl, rfl⟩)
    go_ret
    exact ⟨ret_int H.out.symm, hbb1⟩
  have H : Hid (lookB d s c = lookF d s.toNat c.toNat) := by show _ = _; simp [lookB, hB, hT, hC]
  have hs0 := btw_iff.1 hT
  have hc0 := btw_iff.1 hC
  obtain ⟨sn, rfl⟩ : ∃ n : Nat, s = n := ⟨s.toNat, by omega⟩
  obtain ⟨cn, rfl⟩ : ∃ n : Nat, c = n := ⟨c.toNat, by omega⟩
  go_wp2_with (go_at_call 54; refine (between_ok _ _ _ _).mono ?_; rintro e w' ⟨rfl, rfl⟩)
  refine (l3Go_ok _ _ _ _ _ _ _ d sn cn _ (hs.below hbb1) hf (by omega) (by omega)).mono ?_
  rintro e w2 ⟨rfl, hb2⟩
  go_wp2
  go_ret
  exact ⟨ret_int (by rw [H.out]; simp), below_step hbb1 hbb1.size hb2⟩
end Go.Proofs.Ytplhghhfdabccaa
