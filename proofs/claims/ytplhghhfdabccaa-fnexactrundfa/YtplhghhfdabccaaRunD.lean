import Derived.Test.YtplhghhfdabccaaRunS
namespace Go.Proofs.Ytplhghhfdabccaa
open Go.RowKit
attribute [local go_sem ↓] Go.wp_at_zero Go.wp_at_succ

set_option maxRecDepth 100000 in
set_option maxHeartbeats 2000000 in
theorem specRunDfa_ok {lo : Nat} (cv nv tv ev : Value) (d : DfaD) (s : Int) (t : ByteArray) (w : World) (hs : DfaAt lo w cv nv tv ev d) (ht : t.size ≤ 1048576) :
    Calls Try.prog 24 #[.agg #[cv, .int .i64 d.width, nv, tv, ev], .int .i64 s, .string t] w fun e w' => e = .returned (.int .i64 (runB d s t.data.toList)) ∧ Below w.heap.size w w' := by
  have hb0 : Below w.heap.size w (w.alloc (.cells #[cv, .int .i64 d.width, nv, tv, ev] 38)) := (Below.refl _ _).alloc (Nat.le_refl _) _
  have r0 : (w.alloc (.cells #[cv, .int .i64 d.width, nv, tv, ev] 38)).heap[w.heap.size]? = some (.cells #[cv, .int .i64 d.width, nv, tv, ev] 38 (0, 0)) := heap_alloc_new _ _
  go_enter Try.func24, Try.ntmps24
  go_wp2_with fail
  refine (specDfaOK_ok _ _ _ _ d _ (hs.below hb0)).mono ?_
  rintro e w1 ⟨rfl, hb1⟩
  have hbb1 := below_step hb0 hb0.size hb1
  have r1 := row_below r0 hb1
  have tl : ∃ ta tc, tv = .slice ta d.tag.length tc := by obtain ⟨ta, tc, h, _⟩ := hs.tag; exact ⟨ta, tc, h⟩
  obtain ⟨ta, tc, rfl⟩ := tl
  obtain ⟨a0, a1, a2, a3, a4⟩ := row_five r1
  clear hb1
  cases hB : dfaB d
  case false =>
    have H : Hid (runB d s t.data.toList = -1) := by show _ = _; simp [runB, hB]
    go_wp2
    go_ret
    exact ⟨ret_int H.out.symm, hbb1⟩
  have hf := dfaB_fine hB
  have hn1 := hf.n1; have hn2 := hf.n2
  cases hT : btw s 0 (d.tag.length - 1)
  case false =>
    have H : Hid (runB d s t.data.toList = -1) := by show _ = _; simp [runB, hT]
    go_wp2_with (go_at_call 54; refine (between_ok _ _ _ _).mono ?_; rintro e w' ⟨rfl, rfl⟩)
    go_ret
    exact ⟨ret_int H.out.symm, hbb1⟩
  have H : Hid (runB d s t.data.toList = runF d s t.data.toList) := by show _ = _; simp [runB, hB, hT]
  have hs0 : 0 ≤ s ∧ s < d.tag.length := by have := btw_iff.1 hT; omega
  go_wp2_with (go_at_call 54; refine (between_ok _ _ _ _).mono ?_; rintro e w' ⟨rfl, rfl⟩)
  clear a0 a1 a2 a3 a4
  go_loopw [7, 8] (fun sv iv wr => ∃ k : Nat, k ≤ t.size ∧ iv = .int .i64 k ∧ sv = .int .i64 (runF d s (t.data.toList.take k)) ∧ Below w.heap.size w wr ∧ wr.heap[w.heap.size]? = some (.cells #[cv, .int .i64 d.width, nv, .slice ta d.tag.length tc, ev] 38 (0, 0)))
    (fun _ i _ => t.size - (intOf i).toNat)
  case atStart => exact ⟨0, Nat.zero_le _, rfl, rfl, hbb1, r1⟩
  case round =>
    obtain ⟨k, hk, rfl, rfl, hb, r2⟩ := hrel
    by_cases hlt : k < t.size
    · have HN : Hid _ := runF_snoc d s t k hlt
      have hr := hf.run (t.data.toList.take k) hs0.1 hs0.2
      generalize runF d s (t.data.toList.take k) = x at *
      have hc : t[k].toNat < 256 := t[k].toNat_lt
      have HW : Hid (IntKind.i64.wrap (t[k].toNat : Int) = (t[k].toNat : Int)) := wrap64_small (by omega) (by omega)
      have hi0 : (0 : Int) ≤ (k : Int) := by omega
      have hi1 : (k : Int) < (t.size : Int) := by omega
      obtain ⟨a0, a1, a2, a3, a4⟩ := row_five r2
      go_wp2
      go_region_held3 (fun w' => w'.cell? ⟨w.heap.size, 0, none⟩ = some cv ∧ w'.cell? ⟨w.heap.size, 1, none⟩ = some (.int .i64 d.width) ∧ w'.cell? ⟨w.heap.size, 2, none⟩ = some nv ∧ w'.cell? ⟨w.heap.size, 3, none⟩ = some (.slice ta d.tag.length tc) ∧ w'.cell? ⟨w.heap.size, 4, none⟩ = some ev) ((first | exact row_five (row_drew r2) | exact row_five (row_below (row_drew r2) hb3))) ((go_at_call 68; refine (l2Go_at _ _ _ _ d x _ t[k].toNat _ HW.out (hs.below hb.drew) hf hr.1 hr.2 hc).mono ?_; rintro e w3 ⟨rfl, hb3⟩))
      go_wp2
      go_roundw
      case rel => exact ⟨k + 1, by omega, by go_num, by rw [HN.out], below_step hb.drew hb.size hb3, row_below (row_drew r2) hb3⟩
      case measure => simp [intOf]; omega
    · have HE : Hid _ := runF_all d s t k hlt
      go_wp2
      go_ret
      exact ⟨ret_int (by rw [H.out, HE.out]), hb⟩

set_option maxRecDepth 100000 in
set_option maxHeartbeats 2000000 in
theorem implRunDfa_ok {lo : Nat} (cv nv tv ev : Value) (d : DfaD) (s : Int) (t : ByteArray) (w : World) (hs : DfaAt lo w cv nv tv ev d) (ht : t.size ≤ 1048576) (hsm : DfaSmall d) :
    Calls Try.prog 25 #[.agg #[cv, .int .i64 d.width, nv, tv, ev], .int .i64 s, .string t] w fun e w' => e = .returned (.int .i64 (runB d s t.data.toList)) ∧ Below w.heap.size w w' := by
  have hb0 : Below w.heap.size w (w.alloc (.cells #[cv, .int .i64 d.width, nv, tv, ev] 38)) := (Below.refl _ _).alloc (Nat.le_refl _) _
  have r0 : (w.alloc (.cells #[cv, .int .i64 d.width, nv, tv, ev] 38)).heap[w.heap.size]? = some (.cells #[cv, .int .i64 d.width, nv, tv, ev] 38 (0, 0)) := heap_alloc_new _ _
  go_enter Try.func25, Try.ntmps25
  go_wp2_with fail
  refine (implDfaOK_ok _ _ _ _ d _ (hs.below hb0) hsm).mono ?_
  rintro e w1 ⟨rfl, hb1⟩
  have hbb1 := below_step hb0 hb0.size hb1
  have r1 := row_below r0 hb1
  have tl : ∃ ta tc, tv = .slice ta d.tag.length tc := by obtain ⟨ta, tc, h, _⟩ := hs.tag; exact ⟨ta, tc, h⟩
  obtain ⟨ta, tc, rfl⟩ := tl
  obtain ⟨a0, a1, a2, a3, a4⟩ := row_five r1
  clear hb1
  cases hB : dfaB d
  case false =>
    have H : Hid (runB d s t.data.toList = -1) := by show _ = _; simp [runB, hB]
    go_wp2
    go_ret
    exact ⟨ret_int H.out.symm, hbb1⟩
  have hf := dfaB_fine hB
  have hn1 := hf.n1; have hn2 := hf.n2
  by_cases g1 : s < 0
  · have H : Hid (runB d s t.data.toList = -1) := by
      have : btw s 0 (d.tag.length - 1) = false := by simp [btw]; omega
      show _ = _; simp [runB, this]
    go_wp2
    go_ret
    exact ⟨ret_int H.out.symm, hbb1⟩
  by_cases g2 : (d.tag.length : Int) ≤ s
  · have H : Hid (runB d s t.data.toList = -1) := by
      have : btw s 0 (d.tag.length - 1) = false := by simp [btw]; omega
      show _ = _; simp [runB, this]
    go_wp2
    go_ret
    exact ⟨ret_int H.out.symm, hbb1⟩
  have H : Hid (runB d s t.data.toList = runF d s t.data.toList) := by
    have : btw s 0 (d.tag.length - 1) = true := by simp [btw]; omega
    show _ = _; simp [runB, hB, this]
  have hs0 : 0 ≤ s ∧ s < d.tag.length := by omega
  go_wp2
  clear a0 a1 a2 a3 a4
  go_loopw [7, 8] (fun sv iv wr => ∃ k : Nat, k ≤ t.size ∧ iv = .int .i64 k ∧ sv = .int .i64 (runF d s (t.data.toList.take k)) ∧ Below w.heap.size w wr ∧ wr.heap[w.heap.size]? = some (.cells #[cv, .int .i64 d.width, nv, .slice ta d.tag.length tc, ev] 38 (0, 0)))
    (fun _ i _ => t.size - (intOf i).toNat)
  case atStart => exact ⟨0, Nat.zero_le _, rfl, rfl, hbb1, r1⟩
  case round =>
    obtain ⟨k, hk, rfl, rfl, hb, r2⟩ := hrel
    by_cases hlt : k < t.size
    · have HN : Hid _ := runF_snoc d s t k hlt
      have hr := hf.run (t.data.toList.take k) hs0.1 hs0.2
      generalize runF d s (t.data.toList.take k) = x at *
      have hc : t[k].toNat < 256 := t[k].toNat_lt
      have HW : Hid (IntKind.i64.wrap (t[k].toNat : Int) = (t[k].toNat : Int)) := wrap64_small (by omega) (by omega)
      have hi0 : (0 : Int) ≤ (k : Int) := by omega
      have hi1 : (k : Int) < (t.size : Int) := by omega
      obtain ⟨a0, a1, a2, a3, a4⟩ := row_five r2
      go_wp2
      go_region_held3 (fun w' => w'.cell? ⟨w.heap.size, 0, none⟩ = some cv ∧ w'.cell? ⟨w.heap.size, 1, none⟩ = some (.int .i64 d.width) ∧ w'.cell? ⟨w.heap.size, 2, none⟩ = some nv ∧ w'.cell? ⟨w.heap.size, 3, none⟩ = some (.slice ta d.tag.length tc) ∧ w'.cell? ⟨w.heap.size, 4, none⟩ = some ev) ((first | exact row_five (row_drew r2) | exact row_five (row_below (row_drew r2) hb3))) ((go_at_call 69; refine (step_at _ _ _ _ d x _ t[k].toNat _ HW.out (hs.below hb.drew) hf hr.1 hr.2 hc).mono ?_; rintro e w3 ⟨rfl, hb3⟩))
      go_wp2
      go_roundw
      case rel => exact ⟨k + 1, by omega, by go_num, by rw [HN.out], below_step hb.drew hb.size hb3, row_below (row_drew r2) hb3⟩
      case measure => simp [intOf]; omega
    · have HE : Hid _ := runF_all d s t k hlt
      go_wp2
      go_ret
      exact ⟨ret_int (by rw [H.out, HE.out]), hb⟩
end Go.Proofs.Ytplhghhfdabccaa
