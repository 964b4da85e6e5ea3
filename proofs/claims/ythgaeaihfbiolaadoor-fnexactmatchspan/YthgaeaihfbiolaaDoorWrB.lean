import Derived.Test.YthgaeaihfbiolaaDoorTreeBWrA
import Derived.Deep.RegionHeld3
namespace Go.Proofs.YthgaeaihfbiolaaDoor
open Go.RowKit
attribute [local go_sem ↓] Go.wp_at_zero Go.wp_at_succ

theorem as_set (x : Value) (w : World) : (Instr.typeAssert (.iface 85 x) 57 85 true).run Tryd.prog w = .ok (.tuple #[x, .bool true]) w := by kernel_rfl
theorem no_seq_set (x : Value) (w : World) : (Instr.typeAssert (.iface 88 x) 57 85 true).run Tryd.prog w = .ok (.tuple #[.agg #[.pointer none], .bool false]) w := by kernel_rfl
theorem as_seq (x : Value) (w : World) : (Instr.typeAssert (.iface 88 x) 57 88 true).run Tryd.prog w = .ok (.tuple #[x, .bool true]) w := by kernel_rfl
theorem no_alt_set (x : Value) (w : World) : (Instr.typeAssert (.iface 89 x) 57 85 true).run Tryd.prog w = .ok (.tuple #[.agg #[.pointer none], .bool false]) w := by kernel_rfl
theorem no_alt_seq (x : Value) (w : World) : (Instr.typeAssert (.iface 89 x) 57 88 true).run Tryd.prog w = .ok (.tuple #[.agg #[.nilIface, .nilIface], .bool false]) w := by kernel_rfl
theorem as_alt (x : Value) (w : World) : (Instr.typeAssert (.iface 89 x) 57 89 true).run Tryd.prog w = .ok (.tuple #[x, .bool true]) w := by kernel_rfl
theorem no_rep_set (x : Value) (w : World) : (Instr.typeAssert (.iface 91 x) 57 85 true).run Tryd.prog w = .ok (.tuple #[.agg #[.pointer none], .bool false]) w := by kernel_rfl
theorem no_rep_seq (x : Value) (w : World) : (Instr.typeAssert (.iface 91 x) 57 88 true).run Tryd.prog w = .ok (.tuple #[.agg #[.nilIface, .nilIface], .bool false]) w := by kernel_rfl
theorem no_rep_alt (x : Value) (w : World) : (Instr.typeAssert (.iface 91 x) 57 89 true).run Tryd.prog w = .ok (.tuple #[.agg #[.nilIface, .nilIface], .bool false]) w := by kernel_rfl
theorem as_rep (x : Value) (w : World) : (Instr.typeAssert (.iface 91 x) 57 91 true).run Tryd.prog w = .ok (.tuple #[x, .bool true]) w := by kernel_rfl
theorem no_grp_set (x : Value) (w : World) : (Instr.typeAssert (.iface 94 x) 57 85 true).run Tryd.prog w = .ok (.tuple #[.agg #[.pointer none], .bool false]) w := by kernel_rfl
theorem no_grp_seq (x : Value) (w : World) : (Instr.typeAssert (.iface 94 x) 57 88 true).run Tryd.prog w = .ok (.tuple #[.agg #[.nilIface, .nilIface], .bool false]) w := by kernel_rfl
theorem no_grp_alt (x : Value) (w : World) : (Instr.typeAssert (.iface 94 x) 57 89 true).run Tryd.prog w = .ok (.tuple #[.agg #[.nilIface, .nilIface], .bool false]) w := by kernel_rfl
theorem no_grp_rep (x : Value) (w : World) : (Instr.typeAssert (.iface 94 x) 57 91 true).run Tryd.prog w = .ok (.tuple #[.agg #[.nilIface, .int .i64 0, .int .i64 0], .bool false]) w := by kernel_rfl
theorem as_grp (x : Value) (w : World) : (Instr.typeAssert (.iface 94 x) 57 94 true).run Tryd.prog w = .ok (.tuple #[x, .bool true]) w := by kernel_rfl

theorem row_new2 (w : World) (a b : Obj) : ((w.alloc a).alloc b).heap[w.heap.size + 1]? = some b := by
  have := heap_alloc_new (w.alloc a) b
  simpa using this

set_option maxRecDepth 100000 in
set_option maxHeartbeats 1000000 in
theorem write_set (g : Nat → Bool) : WrC (.set g) := by
  intro B n nw bt sv fv mk f fr F w v h hT hle hn
  obtain ⟨mg, rfl, hm⟩ := hT
  have hpos := bru_pos h.bru
  have hbt : bt < w.heap.size := (Array.getElem?_eq_some_iff.1 h.box).1
  have hbb := h.bb
  have hn' : n < 64 * nw := by have : (wPt (.set g)).toNat = 1 := rfl; omega
  obtain ⟨W0, hW0⟩ : ∃ W0, (w.alloc (.cells #[.bool false, .slice none 0 0, .slice none 0 0] 50)).alloc (.cells #[.pointer (some ⟨mg, 0, none⟩)] 85) = W0 := ⟨_, rfl⟩
  have hb0 : Below w.heap.size w W0 := by rw [← hW0]; exact ((Below.refl _ _).alloc (Nat.le_refl _) _).alloc (by simp) _
  have x0 : W0.heap[w.heap.size]? = some (.cells #[.bool false, .slice none 0 0, .slice none 0 0] 50 (0, 0)) := by rw [← hW0]; exact row_alloc (heap_alloc_new _ _)
  have x1 : W0.heap[w.heap.size + 1]? = some (.cells #[.pointer (some ⟨mg, 0, none⟩)] 85 (0, 0)) := by rw [← hW0]; exact row_new2 _ _ _
  have q0 : W0.cell? ⟨w.heap.size + 1, 0, none⟩ = some (.pointer (some ⟨mg, 0, none⟩)) := (cell_of_row _ _ _ _ _ _ x1 : W0.cell? ⟨w.heap.size + 1, 0, none⟩ = _)
  have hc := position_ok B n nw bt mg sv fv mk f fr F g W0 (h.below hb0) ((hb0.block mg (Array.getElem?_eq_some_iff.1 hm).1).trans hm) hn'
  have a1 := as_set
  go_enter Tryd.func21, Tryd.ntmps21
  go_wp2_with fail
  refine hc.mono ?_
  rintro e W ⟨n', ga, gl, b, sv', fv', mk', f', fr', F', A, L, rfl, hk, D⟩
  have u0 := D.kp.typ _ _ _ x0 (by decide) (by decide) (by decide)
  obtain ⟨k0, k1, k2, f0, f1, f2⟩ := row_threeF u0
  clear hc hW0
  go_wp2
  refine bodyPost_ret (v := .agg #[.bool b, .slice (some ⟨ga, 0, none⟩) nw nw, .slice (some ⟨gl, 0, none⟩) nw nw]) (by simp [results, Tryd.results21, go_sem, k0, k1, k2]) rfl ((D.start hb0 (by omega)).ret u0 (Nat.le_refl _) hpos hk)

set_option maxRecDepth 100000 in
set_option maxHeartbeats 1000000 in
theorem write_grp (p : Pt) (gi : Int) (ih : WrC p) : WrC (.grp p gi) := by
  intro B n nw bt sv fv mk f fr F w v h hT hle hn
  obtain ⟨lv, rfl, hl⟩ := hT
  have hpos := bru_pos h.bru
  have hbt : bt < w.heap.size := (Array.getElem?_eq_some_iff.1 h.box).1
  have hbb := h.bb
  have hle' : wPt p ≤ 2000 := hle
  have hn' : n + (wPt p).toNat ≤ 64 * nw := hn
  obtain ⟨t, x, rfl⟩ := tree_iface hl
  obtain ⟨W0, hW0⟩ : ∃ W0, (w.alloc (.cells #[.bool false, .slice none 0 0, .slice none 0 0] 50)).alloc (.cells #[.iface t x, .int .i64 gi] 94) = W0 := ⟨_, rfl⟩
  have hb0 : Below w.heap.size w W0 := by rw [← hW0]; exact ((Below.refl _ _).alloc (Nat.le_refl _) _).alloc (by simp) _
  have x0 : W0.heap[w.heap.size]? = some (.cells #[.bool false, .slice none 0 0, .slice none 0 0] 50 (0, 0)) := by rw [← hW0]; exact row_alloc (heap_alloc_new _ _)
  have x1 : W0.heap[w.heap.size + 1]? = some (.cells #[.iface t x, .int .i64 gi] 94 (0, 0)) := by rw [← hW0]; exact row_new2 _ _ _
  have q0 : W0.cell? ⟨w.heap.size + 1, 0, none⟩ = some (.iface t x) := (cell_of_row _ _ _ _ _ _ x1 : W0.cell? ⟨w.heap.size + 1, 0, none⟩ = _)
  have hc := ih B n nw bt sv fv mk f fr F W0 (.iface t x) (h.below hb0) (TreeAt.keep (.of hb0) p _ hl) hle' hn'
  have a1 := no_grp_set
  have a2 := no_grp_seq
  have a3 := no_grp_alt
  have a4 := no_grp_rep
  have a5 := as_grp
  go_enter Tryd.func21, Tryd.ntmps21
  go_wp2_with fail
  refine hc.mono ?_
  rintro e W ⟨n', ga, gl, b, sv', fv', mk', f', fr', F', A, L, rfl, hk, D⟩
  have u0 := D.kp.typ _ _ _ x0 (by decide) (by decide) (by decide)
  obtain ⟨k0, k1, k2, f0, f1, f2⟩ := row_threeF u0
  clear hc hW0
  go_wp2
  refine bodyPost_ret (v := .agg #[.bool b, .slice (some ⟨ga, 0, none⟩) nw nw, .slice (some ⟨gl, 0, none⟩) nw nw]) (by simp [results, Tryd.results21, go_sem, k0, k1, k2]) rfl ((D.start hb0 (by omega)).ret u0 (Nat.le_refl _) hpos hk)

set_option maxRecDepth 100000 in
set_option maxHeartbeats 2000000 in
theorem write_seq (p q : Pt) (ih1 : WrC p) (ih2 : WrC q) : WrC (.seq p q) := by
  intro B n nw bt sv fv mk f fr F w v h hT hle hn
  obtain ⟨lv, rv, rfl, hl, hr⟩ := hT
  have hpos := bru_pos h.bru
  have hbt : bt < w.heap.size := (Array.getElem?_eq_some_iff.1 h.box).1
  have hbb := h.bb
  have hp1 := (wPt_bd p _ hl).1
  have hq1 := (wPt_bd q _ hr).1
  have hpq : wPt (.seq p q) = wPt p + wPt q := by
    have e : wPt (.seq p q) = capW (wPt p + wPt q) := rfl
    rw [e] at hle ⊢
    unfold capW at hle ⊢
    split
    · rfl
    · rw [if_neg (by assumption)] at hle; omega
  have Hpq : Hid ((wPt (.seq p q)).toNat = (wPt p).toNat + (wPt q).toNat) := by show _ = _; omega
  have hp2 : wPt p ≤ 2000 := by omega
  have hq2 : wPt q ≤ 2000 := by omega
  have hp3 : n + (wPt p).toNat ≤ 64 * nw := by omega
  have hq3 : ∀ n', n' ≤ n + (wPt p).toNat → n' + (wPt q).toNat ≤ 64 * nw := fun n' hk => by omega
  clear hpq hle hn
  obtain ⟨t, x, rfl⟩ := tree_iface hl
  obtain ⟨t2, x2, rfl⟩ := tree_iface hr
  obtain ⟨W0, hW0⟩ : ∃ W0, (w.alloc (.cells #[.bool false, .slice none 0 0, .slice none 0 0] 50)).alloc (.cells #[.iface t x, .iface t2 x2] 88) = W0 := ⟨_, rfl⟩
  have hb0 : Below w.heap.size w W0 := by rw [← hW0]; exact ((Below.refl _ _).alloc (Nat.le_refl _) _).alloc (by simp) _
  have x0 : W0.heap[w.heap.size]? = some (.cells #[.bool false, .slice none 0 0, .slice none 0 0] 50 (0, 0)) := by rw [← hW0]; exact row_alloc (heap_alloc_new _ _)
  have x1 : W0.heap[w.heap.size + 1]? = some (.cells #[.iface t x, .iface t2 x2] 88 (0, 0)) := by rw [← hW0]; exact row_new2 _ _ _
  have q0 : W0.cell? ⟨w.heap.size + 1, 0, none⟩ = some (.iface t x) := (cell_of_row _ _ _ _ _ _ x1 : W0.cell? ⟨w.heap.size + 1, 0, none⟩ = _)
  have hc := ih1 B n nw bt sv fv mk f fr F W0 (.iface t x) (h.below hb0) (TreeAt.keep (.of hb0) p _ hl) hp2 hp3
  have a1 := no_seq_set
  have a2 := as_seq
  go_enter Tryd.func21, Tryd.ntmps21
  go_wp2_with fail
  refine hc.mono ?_
  rintro e W2 ⟨n1, ga, gl, b, sv', fv', mk', f', fr', F', A, L, rfl, hk1, D1⟩
  clear hc hW0 q0 a1 a2
  have u0 := D1.kp.typ _ _ _ x0 (by decide) (by decide) (by decide)
  have u1 := D1.kp.typ _ _ _ x1 (by decide) (by decide) (by decide)
  obtain ⟨W3, hW3⟩ : ∃ W3, W2.alloc (.cells #[.bool b, .slice (some ⟨ga, 0, none⟩) nw nw, .slice (some ⟨gl, 0, none⟩) nw nw] 50) = W3 := ⟨_, rfl⟩
  have hb3 : Below W2.heap.size W2 W3 := by rw [← hW3]; exact (Below.refl _ _).alloc (Nat.le_refl _) _
  have v0 : W3.heap[w.heap.size]? = _ := (hb3.block _ (Array.getElem?_eq_some_iff.1 u0).1).trans u0
  have v1 : W3.heap[w.heap.size + 1]? = _ := (hb3.block _ (Array.getElem?_eq_some_iff.1 u1).1).trans u1
  have v2 : W3.heap[W2.heap.size]? = some (.cells #[.bool b, .slice (some ⟨ga, 0, none⟩) nw nw, .slice (some ⟨gl, 0, none⟩) nw nw] 50 (0, 0)) := by rw [← hW3]; exact heap_alloc_new _ _
  have c1 : W3.cell? ⟨w.heap.size + 1, 1, none⟩ = some (.iface t2 x2) := (cell_of_row _ _ _ _ _ _ v1 : W3.cell? ⟨w.heap.size + 1, 1, none⟩ = _)
  obtain ⟨d0, d1, d2, -, -, -⟩ := row_threeF v2
  have hb3d : Below W2.heap.size W2 W3.drew := hb3.drew
  have hc2 := ih2 B n1 nw bt sv' fv' mk' f' fr' F' W3.drew (.iface t2 x2) (D1.tk.below hb3d) (TreeAt.keep (.of hb3d) q _ (TreeAt.keep D1.kp.keepM q _ (TreeAt.keep (.of hb0) q _ hr))) hq2 (hq3 n1 hk1)
  have hw2 : Calls Tryd.prog 21 #[.pointer (some ⟨bt, 0, none⟩), .iface t2 x2] W3.drew fun e W => ∃ v, e = .returned v ∧ ∃ (n2 ha hl : Nat) (c : Bool), v = .agg #[.bool c, .slice (some ⟨ha, 0, none⟩) nw nw, .slice (some ⟨hl, 0, none⟩) nw nw] ∧ Hid (n2 ≤ n + (wPt (.seq p q)).toNat) ∧ (W.cell? ⟨W2.heap.size, 0, none⟩ = some (.bool b) ∧ W.cell? ⟨W2.heap.size, 1, none⟩ = some (.slice (some ⟨ga, 0, none⟩) nw nw) ∧ W.cell? ⟨W2.heap.size, 2, none⟩ = some (.slice (some ⟨gl, 0, none⟩) nw nw)) ∧ Hid (W.heap[w.heap.size]? = some (.cells #[.bool false, .slice none 0 0, .slice none 0 0] 50 (0, 0))) ∧
      Calls Tryd.prog 38 #[.pointer (some ⟨bt, 0, none⟩), .agg #[.bool b, .slice (some ⟨ga, 0, none⟩) nw nw, .slice (some ⟨gl, 0, none⟩) nw nw], .agg #[.bool c, .slice (some ⟨ha, 0, none⟩) nw nw, .slice (some ⟨hl, 0, none⟩) nw nw]] W fun e W5 => e = .returned (.agg #[.bool (b && c), .slice (some ⟨ga, 0, none⟩) nw nw, .slice (some ⟨hl, 0, none⟩) nw nw]) ∧ WrX B W0 n nw bt mk f fr F W5 n2 ga hl (b && c) (In (.seq p q)) ∧ KU W W5 := by
    refine hc2.mono ?_
    rintro e W ⟨n2, ha, hl, c, sv2, fv2, mk2, f2, fr2, F2, A', L', rfl, hk2, D2⟩
    refine ⟨_, rfl, n2, ha, hl, c, rfl, ?_, ?_, D2.kp.typ _ _ _ v0 (by decide) (by decide) (by decide), seq_ok2 (D1.pair hb3d D2)⟩
    · show n2 ≤ _; rw [Hpq.out]; omega
    · obtain ⟨z0, z1, z2, -, -, -⟩ := row_threeF (D2.kp.typ _ _ _ v2 (by decide) (by decide) (by decide))
      exact ⟨z0, z1, z2⟩
  clear hc2 v1 v2 v0 u0 u1 x1 hq3 ih1 ih2 D1 hb3 hb3d h
  go_wp2
  clear hW3
  go_region_law ((first | (refine step_goE (by rfl) 21 #[.tmp 29, .tmp 31] #[44, 57] (by rfl) #[.pointer (some ⟨bt, 0, none⟩), .iface t2 x2] (by simp [Act.eval]) _ (enterWrite _ _) hw2 ?_; rintro _ W4 ⟨n2, ha, hl, c, rfl, Hn2, ⟨z0, z1, z2⟩, HX, hsq⟩) | (refine step_go (by rfl) 38 #[.tmp 27, .tmp 28, .tmp 32] #[44, 50, 50] (by rfl) _ (by simp [Act.eval]) _ _ (enterSeq _ _) hsq ?_; rintro W5 ⟨D5, hKU⟩; have y0 := hKU _ _ _ HX.out (by decide); obtain ⟨k0, k1, k2, f0, f1, f2⟩ := row_threeF y0)))
  all_goals
    obtain ⟨sv5, fv5, mk5, f5, fr5, F5, A5, L5, D⟩ := D5
    have hret := (D.start hb0 (by omega)).ret y0 (Nat.le_refl _) hpos Hn2.out
    clear hw2 hsq D y0 hKU HX z0 z1 z2 d0 d1 d2 c1
    go_wp2
    exact bodyPost_ret (by simp [results, Tryd.results21, go_sem, k0, k1, k2]) rfl hret

set_option maxRecDepth 100000 in
set_option maxHeartbeats 2000000 in
theorem write_alt (p q : Pt) (ih1 : WrC p) (ih2 : WrC q) : WrC (.alt p q) := by
  intro B n nw bt sv fv mk f fr F w v h hT hle hn
  obtain ⟨lv, rv, rfl, hl, hr⟩ := hT
  have hpos := bru_pos h.bru
  have hbt : bt < w.heap.size := (Array.getElem?_eq_some_iff.1 h.box).1
  have hbb := h.bb
  have hp1 := (wPt_bd p _ hl).1
  have hq1 := (wPt_bd q _ hr).1
  have hpq : wPt (.alt p q) = wPt p + wPt q := by
    have e : wPt (.alt p q) = capW (wPt p + wPt q) := rfl
    rw [e] at hle ⊢
    unfold capW at hle ⊢
    split
    · rfl
    · rw [if_neg (by assumption)] at hle; omega
  have Hpq : Hid ((wPt (.alt p q)).toNat = (wPt p).toNat + (wPt q).toNat) := by show _ = _; omega
  have hp2 : wPt p ≤ 2000 := by omega
  have hq2 : wPt q ≤ 2000 := by omega
  have hp3 : n + (wPt p).toNat ≤ 64 * nw := by omega
  have hq3 : ∀ n', n' ≤ n + (wPt p).toNat → n' + (wPt q).toNat ≤ 64 * nw := fun n' hk => by omega
  clear hpq hle hn
  obtain ⟨t, x, rfl⟩ := tree_iface hl
  obtain ⟨t2, x2, rfl⟩ := tree_iface hr
  obtain ⟨W0, hW0⟩ : ∃ W0, (w.alloc (.cells #[.bool false, .slice none 0 0, .slice none 0 0] 50)).alloc (.cells #[.iface t x, .iface t2 x2] 89) = W0 := ⟨_, rfl⟩
  have hb0 : Below w.heap.size w W0 := by rw [← hW0]; exact ((Below.refl _ _).alloc (Nat.le_refl _) _).alloc (by simp) _
  have x0 : W0.heap[w.heap.size]? = some (.cells #[.bool false, .slice none 0 0, .slice none 0 0] 50 (0, 0)) := by rw [← hW0]; exact row_alloc (heap_alloc_new _ _)
  have x1 : W0.heap[w.heap.size + 1]? = some (.cells #[.iface t x, .iface t2 x2] 89 (0, 0)) := by rw [← hW0]; exact row_new2 _ _ _
  have q0 : W0.cell? ⟨w.heap.size + 1, 0, none⟩ = some (.iface t x) := (cell_of_row _ _ _ _ _ _ x1 : W0.cell? ⟨w.heap.size + 1, 0, none⟩ = _)
  have hc := ih1 B n nw bt sv fv mk f fr F W0 (.iface t x) (h.below hb0) (TreeAt.keep (.of hb0) p _ hl) hp2 hp3
  have a1 := no_alt_set
  have a2 := no_alt_seq
  have a3 := as_alt
  go_enter Tryd.func21, Tryd.ntmps21
  go_wp2_with fail
  refine hc.mono ?_
  rintro e W2 ⟨n1, ga, gl, b, sv', fv', mk', f', fr', F', A, L, rfl, hk1, D1⟩
  clear hc hW0 q0 a1 a2 a3
  have u0 := D1.kp.typ _ _ _ x0 (by decide) (by decide) (by decide)
  have u1 := D1.kp.typ _ _ _ x1 (by decide) (by decide) (by decide)
  obtain ⟨W3, hW3⟩ : ∃ W3, W2.alloc (.cells #[.bool b, .slice (some ⟨ga, 0, none⟩) nw nw, .slice (some ⟨gl, 0, none⟩) nw nw] 50) = W3 := ⟨_, rfl⟩
  have hb3 : Below W2.heap.size W2 W3 := by rw [← hW3]; exact (Below.refl _ _).alloc (Nat.le_refl _) _
  have v0 : W3.heap[w.heap.size]? = _ := (hb3.block _ (Array.getElem?_eq_some_iff.1 u0).1).trans u0
  have v1 : W3.heap[w.heap.size + 1]? = _ := (hb3.block _ (Array.getElem?_eq_some_iff.1 u1).1).trans u1
  have v2 : W3.heap[W2.heap.size]? = some (.cells #[.bool b, .slice (some ⟨ga, 0, none⟩) nw nw, .slice (some ⟨gl, 0, none⟩) nw nw] 50 (0, 0)) := by rw [← hW3]; exact heap_alloc_new _ _
  have c1 : W3.cell? ⟨w.heap.size + 1, 1, none⟩ = some (.iface t2 x2) := (cell_of_row _ _ _ _ _ _ v1 : W3.cell? ⟨w.heap.size + 1, 1, none⟩ = _)
  obtain ⟨d0, d1, d2, -, -, -⟩ := row_threeF v2
  have hb3d : Below W2.heap.size W2 W3.drew := hb3.drew
  have hc2 := ih2 B n1 nw bt sv' fv' mk' f' fr' F' W3.drew (.iface t2 x2) (D1.tk.below hb3d) (TreeAt.keep (.of hb3d) q _ (TreeAt.keep D1.kp.keepM q _ (TreeAt.keep (.of hb0) q _ hr))) hq2 (hq3 n1 hk1)
  have hw2 : Calls Tryd.prog 21 #[.pointer (some ⟨bt, 0, none⟩), .iface t2 x2] W3.drew fun e W => ∃ v, e = .returned v ∧ ∃ (n2 ha hl : Nat) (c : Bool), v = .agg #[.bool c, .slice (some ⟨ha, 0, none⟩) nw nw, .slice (some ⟨hl, 0, none⟩) nw nw] ∧ Hid (n2 ≤ n + (wPt (.alt p q)).toNat) ∧ (W.cell? ⟨W2.heap.size, 0, none⟩ = some (.bool b) ∧ W.cell? ⟨W2.heap.size, 1, none⟩ = some (.slice (some ⟨ga, 0, none⟩) nw nw) ∧ W.cell? ⟨W2.heap.size, 2, none⟩ = some (.slice (some ⟨gl, 0, none⟩) nw nw)) ∧ Hid (W.heap[w.heap.size]? = some (.cells #[.bool false, .slice none 0 0, .slice none 0 0] 50 (0, 0))) ∧
      Calls Tryd.prog 20 #[.pointer (some ⟨bt, 0, none⟩), .agg #[.bool b, .slice (some ⟨ga, 0, none⟩) nw nw, .slice (some ⟨gl, 0, none⟩) nw nw], .agg #[.bool c, .slice (some ⟨ha, 0, none⟩) nw nw, .slice (some ⟨hl, 0, none⟩) nw nw]] W fun e W5 => e = .returned (.agg #[.bool (b || c), .slice (some ⟨ga, 0, none⟩) nw nw, .slice (some ⟨gl, 0, none⟩) nw nw]) ∧ WrX B W0 n nw bt mk f fr F W5 n2 ga gl (b || c) (In (.alt p q)) ∧ KU W W5 := by
    refine hc2.mono ?_
    rintro e W ⟨n2, ha, hl, c, sv2, fv2, mk2, f2, fr2, F2, A', L', rfl, hk2, D2⟩
    refine ⟨_, rfl, n2, ha, hl, c, rfl, ?_, ?_, D2.kp.typ _ _ _ v0 (by decide) (by decide) (by decide), alt_ok2 (D1.pair hb3d D2)⟩
    · show n2 ≤ _; rw [Hpq.out]; omega
    · obtain ⟨z0, z1, z2, -, -, -⟩ := row_threeF (D2.kp.typ _ _ _ v2 (by decide) (by decide) (by decide))
      exact ⟨z0, z1, z2⟩
  clear hc2 v1 v2 v0 u0 u1 x1 hq3 ih1 ih2 D1 hb3 hb3d h
  go_wp2
  clear hW3
  go_region_law ((first | (refine step_goE (by rfl) 21 #[.tmp 43, .tmp 45] #[44, 57] (by rfl) #[.pointer (some ⟨bt, 0, none⟩), .iface t2 x2] (by simp [Act.eval]) _ (enterWrite _ _) hw2 ?_; rintro _ W4 ⟨n2, ha, hl, c, rfl, Hn2, ⟨z0, z1, z2⟩, HX, hsq⟩) | (refine step_go (by rfl) 20 #[.tmp 41, .tmp 42, .tmp 46] #[44, 50, 50] (by rfl) _ (by simp [Act.eval]) _ _ (enterEither _ _) hsq ?_; rintro W5 ⟨D5, hKU⟩; have y0 := hKU _ _ _ HX.out (by decide); obtain ⟨k0, k1, k2, f0, f1, f2⟩ := row_threeF y0)))
  all_goals
    obtain ⟨sv5, fv5, mk5, f5, fr5, F5, A5, L5, D⟩ := D5
    have hret := (D.start hb0 (by omega)).ret y0 (Nat.le_refl _) hpos Hn2.out
    clear hw2 hsq D y0 hKU HX z0 z1 z2 d0 d1 d2 c1
    go_wp2
    exact bodyPost_ret (by simp [results, Tryd.results21, go_sem, k0, k1, k2]) rfl hret
end Go.Proofs.YthgaeaihfbiolaaDoor
