import Derived.Test.YtgbdlgogccgciaaBtwInts
namespace Go.Proofs.Ytgbdlgogccgciaa
open Go.RowKit

structure DfaD where
  classes : List Int
  width : Int
  next : List Int
  tag : List Int
  fin : List Int

/-- The five cells of an automaton. -/
structure DfaAt (lo : Nat) (w : World) (cv nv tv ev : Value) (d : DfaD) : Prop where
  classes : IntsAt lo w cv d.classes
  next : IntsAt lo w nv d.next
  tag : IntsAt lo w tv d.tag
  fin : IntsAt lo w ev d.fin
theorem DfaAt.below {lo : Nat} {w w' : World} {cv nv tv ev : Value} {d : DfaD} (h : DfaAt lo w cv nv tv ev d) (hb : Below w.heap.size w w') : DfaAt lo w' cv nv tv ev d :=
  ⟨h.classes.below hb, h.next.below hb, h.tag.below hb, h.fin.below hb⟩

def dfaSz (d : DfaD) (l : Int) : Int :=
  if szIntsF d.classes l < 0 then -1 else if szIntsF d.next (szIntsF d.classes l) < 0 then -1
  else if szIntsF d.tag (szIntsF d.next (szIntsF d.classes l)) < 0 then -1
  else szIntsF d.fin (szIntsF d.tag (szIntsF d.next (szIntsF d.classes l)))
def DfaSmall (d : DfaD) : Prop := d.classes.length ≤ 1048576 ∧ d.next.length ≤ 1048576 ∧ d.tag.length ≤ 1048576 ∧ d.fin.length ≤ 1048576
theorem szInts_small {xs : List Int} {l : Int} (h : 0 ≤ szIntsF xs l) (hl : l ≤ 1048576) : xs.length ≤ 1048576 ∧ szIntsF xs l ≤ 1048576 := by
  unfold szIntsF at h ⊢; split at h <;> (try split) <;> omega
theorem dfaSz_small {d : DfaD} (h : 0 ≤ dfaSz d 1048576) : DfaSmall d := by
  unfold dfaSz at h
  split at h
  · omega
  · split at h
    · omega
    · split at h
      · omega
      · have a := szInts_small (show 0 ≤ szIntsF d.classes 1048576 by omega) (Int.le_refl _)
        have b := szInts_small (show 0 ≤ szIntsF d.next (szIntsF d.classes 1048576) by omega) a.2
        have c := szInts_small (show 0 ≤ szIntsF d.tag (szIntsF d.next (szIntsF d.classes 1048576)) by omega) b.2
        have e := szInts_small h c.2
        exact ⟨a.1, b.1, c.1, e.1⟩
theorem dfaSz_bd (d : DfaD) (l : Int) (h : 0 ≤ l) : -1 ≤ dfaSz d l := by
  have a := szIntsF_le d.classes l h
  unfold dfaSz
  split
  · omega
  · have b := szIntsF_le d.next _ (show 0 ≤ szIntsF d.classes l by omega)
    split
    · omega
    · have c := szIntsF_le d.tag _ (show 0 ≤ szIntsF d.next (szIntsF d.classes l) by omega)
      split
      · omega
      · exact (szIntsF_le d.fin _ (by omega)).1

set_option maxRecDepth 100000 in
set_option maxHeartbeats 1000000 in
theorem szDfa_ok {lo : Nat} (cv nv tv ev : Value) (d : DfaD) (left : Int) (w : World) (hs : DfaAt lo w cv nv tv ev d) (h0 : 0 ≤ left) (h1 : left ≤ 1048576) :
    Calls Try.prog 4 #[.agg #[cv, .int .i64 d.width, nv, tv, ev], .int .i64 left] w fun e w' => e = .returned (.int .i64 (dfaSz d left)) ∧ Below w.heap.size w w' := by
  obtain ⟨⟨ca, cc, rfl, cm, _⟩, ⟨na, nc, rfl, nm, _⟩, ⟨ta, tc, rfl, tm, _⟩, ⟨ea, ec, rfl, em, _⟩⟩ := hs
  have a := szIntsF_le d.classes left h0
  by_cases g1 : szIntsF d.classes left < 0
  · have H : Hid (dfaSz d left = -1) := by show _ = _; unfold dfaSz; rw [if_pos g1]
    go_enter Try.func4, Try.ntmps4
    go_wp2_with (go_at_call 11; refine (szIntS_ok _ _ _ _ _ h0 h1 cm).mono ?_; rintro e w' ⟨rfl, rfl⟩)
    go_ret
    exact ⟨ret_int H.out.symm, (Below.refl _ _).alloc (Nat.le_refl _) _⟩
  have b := szIntsF_le d.next _ (show 0 ≤ szIntsF d.classes left by omega)
  have H1 : Hid (dfaSz d left = if szIntsF d.next (szIntsF d.classes left) < 0 then -1 else if szIntsF d.tag (szIntsF d.next (szIntsF d.classes left)) < 0 then -1 else szIntsF d.fin (szIntsF d.tag (szIntsF d.next (szIntsF d.classes left)))) := by show _ = _; unfold dfaSz; rw [if_neg g1]
  go_enter Try.func4, Try.ntmps4
  go_wp2_with fail
  refine (szIntS_ok _ _ _ _ _ h0 h1 cm).mono ?_
  rintro e w' ⟨rfl, rfl⟩
  generalize szIntsF d.classes left = l1 at *
  go_wp2_with fail
  refine (szIntS_ok _ _ _ _ _ (by omega) (by omega) nm).mono ?_
  rintro e w' ⟨rfl, rfl⟩
  by_cases g2 : szIntsF d.next l1 < 0
  · rw [if_pos g2] at H1
    go_wp2
    go_ret
    exact ⟨ret_int H1.out.symm, (Below.refl _ _).alloc (Nat.le_refl _) _⟩
  rw [if_neg g2] at H1
  have c := szIntsF_le d.tag _ (show 0 ≤ szIntsF d.next l1 by omega)
  generalize szIntsF d.next l1 = l2 at *
  go_wp2_with fail
  refine (szIntS_ok _ _ _ _ _ (by omega) (by omega) tm).mono ?_
  rintro e w' ⟨rfl, rfl⟩
  by_cases g3 : szIntsF d.tag l2 < 0
  · rw [if_pos g3] at H1
    go_wp2
    go_ret
    exact ⟨ret_int H1.out.symm, (Below.refl _ _).alloc (Nat.le_refl _) _⟩
  rw [if_neg g3] at H1
  have ff := szIntsF_le d.fin _ (show 0 ≤ szIntsF d.tag l2 by omega)
  generalize szIntsF d.tag l2 = l3 at *
  go_wp2_with fail
  refine (szIntS_ok _ _ _ _ _ (by omega) (by omega) em).mono ?_
  rintro e w' ⟨rfl, rfl⟩
  by_cases g4 : szIntsF d.fin l3 < 0
  all_goals
    go_wp2
    go_ret
    exact ⟨ret_int (by rw [H1.out] <;> omega), (Below.refl _ _).alloc (Nat.le_refl _) _⟩

set_option maxRecDepth 100000 in
set_option maxHeartbeats 400000 in
theorem l2All_ok {l : Nat} (lo hi : Int) (v : Value) (xs : List Int) (w : World) (hs : IntsAt l w v xs) :
    Calls Try.prog 24 #[v, .int .i64 lo, .int .i64 hi] w fun e w' => e = .returned (.bool (allIn lo hi xs)) ∧ w' = w := by
  obtain ⟨ao, cap, rfl, hm, hc⟩ := hs
  go_enter Try.func24, Try.ntmps24
  go_wp2
  go_loop [11] (fun i => ∃ k : Nat, k ≤ xs.length ∧ i = .int .i64 k ∧ Hid (allIn lo hi xs = allIn lo hi (xs.drop k)))
    (fun i => xs.length - (intOf i).toNat)
  case atStart => exact ⟨0, Nat.zero_le _, rfl, rfl⟩
  case round =>
    obtain ⟨k, hk, rfl, HS⟩ := hrel
    by_cases hlt : k < xs.length
    · obtain ⟨b, o, x, rfl, Hn, hbl, c0⟩ := hc.elem (Below.refl _ _) hlt
      have HD : Hid _ := allIn_drop lo hi xs k hlt x Hn.out
      by_cases hb : btw x lo hi = true
      · go_wp2_with (go_at_call 23; refine (between_ok _ _ _ _).mono ?_; rintro e w' ⟨rfl, rfl⟩)
        go_round
        case rel => exact ⟨k + 1, by omega, by go_num, by show _ = _; rw [HS.out, HD.out, hb, Bool.true_and]⟩
        case measure => simp [intOf]; omega
      · have hb' : btw x lo hi = false := by simpa using hb
        clear hb
        go_wp2_with (go_at_call 23; refine (between_ok _ _ _ _).mono ?_; rintro e w' ⟨rfl, rfl⟩)
        go_ret
        exact ⟨ret_bool (by rw [HS.out, HD.out, hb', Bool.false_and]), rfl⟩
    · go_wp2
      go_ret
      exact ⟨ret_bool (by rw [HS.out, List.drop_eq_nil_of_le (by omega)]; rfl), rfl⟩

set_option maxRecDepth 100000 in
set_option maxHeartbeats 1000000 in
theorem eqDfa_ok {l1 l2 : Nat} (cv nv tv ev cv2 nv2 tv2 ev2 : Value) (d : DfaD) (w : World) (hs : DfaAt l1 w cv nv tv ev d) (hs2 : DfaAt l2 w cv2 nv2 tv2 ev2 d) :
    Calls Try.prog 8 #[.agg #[cv, .int .i64 d.width, nv, tv, ev], .agg #[cv2, .int .i64 d.width, nv2, tv2, ev2]] w fun e w' => e = .returned (.bool true) ∧ Below w.heap.size w w' := by
  have hb0 : ∀ X Y, Below w.heap.size w ((w.alloc (.cells X 26)).alloc (.cells Y 26)) := fun X Y => ((Below.refl _ _).alloc (Nat.le_refl _) _).alloc (by simp) _
  go_enter Try.func8, Try.ntmps8
  go_wp2_with fail
  refine (eqIntS_ok _ _ d.classes _ (hs.below (hb0 _ _)).classes (hs2.below (hb0 _ _)).classes).mono ?_
  rintro e w1 ⟨rfl, hb1⟩
  have hbb1 := below_step (hb0 #[cv, .int .i64 d.width, nv, tv, ev] #[cv2, .int .i64 d.width, nv2, tv2, ev2]) (hb0 _ _).size hb1
  have hz1 : w.heap.size + 1 + 1 ≤ w1.heap.size := Nat.le_trans (by simp) hb1.size
  have hc1 : ∀ b o, b < w.heap.size + 1 + 1 → w1.cell? ⟨b, o, none⟩ = ((w.alloc (.cells #[cv, .int .i64 d.width, nv, tv, ev] 26)).alloc (.cells #[cv2, .int .i64 d.width, nv2, tv2, ev2] 26)).cell? ⟨b, o, none⟩ := fun b o h => hb1.cell (p := ⟨b, o, none⟩) (by simpa using h)
  clear hb1
  go_wp2_with fail
  refine (eqIntS_ok _ _ d.next _ (hs.below hbb1).next (hs2.below hbb1).next).mono ?_
  rintro e w2 ⟨rfl, hb2⟩
  have hbb2 := below_step hbb1 hbb1.size hb2
  have hz2 : w.heap.size + 1 + 1 ≤ w2.heap.size := Nat.le_trans hz1 hb2.size
  have hc2 : ∀ b o, b < w.heap.size + 1 + 1 → w2.cell? ⟨b, o, none⟩ = ((w.alloc (.cells #[cv, .int .i64 d.width, nv, tv, ev] 26)).alloc (.cells #[cv2, .int .i64 d.width, nv2, tv2, ev2] 26)).cell? ⟨b, o, none⟩ := fun b o h => (hb2.cell (p := ⟨b, o, none⟩) (Nat.lt_of_lt_of_le h hz1)).trans (hc1 b o h)
  clear hb2 hc1
  go_wp2_with fail
  refine (eqIntS_ok _ _ d.tag _ (hs.below hbb2).tag (hs2.below hbb2).tag).mono ?_
  rintro e w3 ⟨rfl, hb3⟩
  have hbb3 := below_step hbb2 hbb2.size hb3
  have hz3 : w.heap.size + 1 + 1 ≤ w3.heap.size := Nat.le_trans hz2 hb3.size
  have hc3 : ∀ b o, b < w.heap.size + 1 + 1 → w3.cell? ⟨b, o, none⟩ = ((w.alloc (.cells #[cv, .int .i64 d.width, nv, tv, ev] 26)).alloc (.cells #[cv2, .int .i64 d.width, nv2, tv2, ev2] 26)).cell? ⟨b, o, none⟩ := fun b o h => (hb3.cell (p := ⟨b, o, none⟩) (Nat.lt_of_lt_of_le h hz2)).trans (hc2 b o h)
  clear hb3 hc2
  go_wp2_with fail
  refine (eqIntS_ok _ _ d.fin _ (hs.below hbb3).fin (hs2.below hbb3).fin).mono ?_
  rintro e w4 ⟨rfl, hb4⟩
  have hbb4 := below_step hbb3 hbb3.size hb4
  have hz4 : w.heap.size + 1 + 1 ≤ w4.heap.size := Nat.le_trans hz3 hb4.size
  have hc4 : ∀ b o, b < w.heap.size + 1 + 1 → w4.cell? ⟨b, o, none⟩ = ((w.alloc (.cells #[cv, .int .i64 d.width, nv, tv, ev] 26)).alloc (.cells #[cv2, .int .i64 d.width, nv2, tv2, ev2] 26)).cell? ⟨b, o, none⟩ := fun b o h => (hb4.cell (p := ⟨b, o, none⟩) (Nat.lt_of_lt_of_le h hz3)).trans (hc3 b o h)
  clear hb4 hc3
  go_wp2
  go_ret
  exact ⟨rfl, hbb4⟩
end Go.Proofs.Ytgbdlgogccgciaa
