import Derived.Test.YtgbdlgogccgciaaGreatDoorSzOwnToEqLeaf
import Derived.Deep.Light
namespace Go.Proofs.YtgbdlgogccgciaaGreatDoor
open Go.RowKit

def rangesOK : Int → List (Int × Int) → Bool
  | _, [] => true
  | least, (lo, hi) :: r => if lo < least ∨ hi < lo ∨ 255 < hi then false else rangesOK (hi + 2) r
theorem rangesOK_drop (rs : List (Int × Int)) (i : Nat) (hi : i < rs.length) (least a b : Int) (h : rs.getD i (0, 0) = (a, b)) :
    rangesOK least (rs.drop i) = if a < least ∨ b < a ∨ 255 < b then false else rangesOK (b + 2) (rs.drop (i + 1)) := by
  rw [List.drop_eq_getElem_cons hi]
  have : rs[i] = (a, b) := by rw [← h]; simp [List.getD, hi]
  rw [this]
  rfl

set_option maxRecDepth 100000 in
set_option maxHeartbeats 400000 in
theorem setOK_ok {lo : Nat} (v : Value) (rs : List (Int × Int)) (w : World) (hs : RangesAt lo w v rs) :
    Calls Tryz.prog 88 #[v] w fun e w' => e = .returned (.bool (rangesOK 0 rs)) ∧ Below w.heap.size w w' := by
  obtain ⟨ao, cap, rfl, hm, hc⟩ := hs
  go_enter Tryz.func88, Tryz.ntmps88
  go_wp2
  go_loopw [3, 8] (fun l i wr => ∃ k : Nat, k ≤ rs.length ∧ i = .int .i64 k ∧ ∃ L : Int, l = .int .i64 L ∧ 0 ≤ L ∧ L ≤ 257 ∧ Hid (rangesOK 0 rs = rangesOK L (rs.drop k)) ∧ Below w.heap.size w wr)
    (fun _ i _ => rs.length - (intOf i).toNat)
  case atStart => exact ⟨0, Nat.zero_le _, rfl, _, rfl, by omega, by omega, rfl, Below.refl _ _⟩
  case round =>
    obtain ⟨k, hk, rfl, L, rfl, hL0, hL1, HS, hb⟩ := hrel
    by_cases hlt : k < rs.length
    · obtain ⟨b, o, x, y, rfl, Hn, hbl, c0, c1⟩ := hc.elem hb hlt
      have hz := hb.size
      have hba : Below w.heap.size w (wr.alloc (.cells #[.int .i64 x, .int .i64 y] 99)) := hb.alloc hz _
      have HD : Hid (rangesOK L (rs.drop k) = if x < L ∨ y < x ∨ 255 < y then false else rangesOK (y + 2) (rs.drop (k + 1))) := rangesOK_drop rs k hlt L x y Hn.out
      by_cases h1 : x < L
      · go_wp2
        go_ret
        exact ⟨ret_bool (by rw [HS.out, HD.out, if_pos (by omega)]), hba⟩
      by_cases h2 : y < x
      · go_wp2
        go_ret
        exact ⟨ret_bool (by rw [HS.out, HD.out, if_pos (by omega)]), hba⟩
      by_cases h3 : 255 < y
      · go_wp2
        go_ret
        exact ⟨ret_bool (by rw [HS.out, HD.out, if_pos (by omega)]), hba⟩
      go_wp2
      go_roundw
      case rel => exact ⟨k + 1, by omega, by go_num, _, rfl, by omega, by omega, by show _ = _; rw [HS.out, HD.out, if_neg (by omega)], hba⟩
      case measure => simp [intOf]; omega
    · go_wp2
      go_ret
      exact ⟨ret_bool (by rw [HS.out, List.drop_eq_nil_of_le (by omega)]; rfl), hb⟩

def nodeB (n : NodeD) : Bool :=
  if n.kind = 1 then rangesOK 0 n.set && (n.min == 0 && n.max == 0) && n.group == 0
  else if n.kind = 2 ∨ n.kind = 3 then ((n.set.length : Int) == 0) && (n.min == 0 && n.max == 0) && n.group == 0
  else if n.kind = 4 then ((n.set.length : Int) == 0) && boundsB n.min n.max && n.group == 0
  else if n.kind = 5 then ((n.set.length : Int) == 0) && (n.min == 0 && n.max == 0)
  else false

set_option maxRecDepth 100000 in
set_option maxHeartbeats 400000 in
theorem fieldsOK_ok {lo : Nat} (k mn mx g : Int) (v : Value) (rs : List (Int × Int)) (w : World) (hs : RangesAt lo w v rs) :
    Calls Tryz.prog 78 #[.agg #[.int .i64 k, v, .int .i64 mn, .int .i64 mx, .int .i64 g]] w fun e w' => e = .returned (.bool (nodeB ⟨k, rs, mn, mx, g⟩)) ∧ Below w.heap.size w w' := by
  have ha := (Below.refl w.heap.size w).alloc (Nat.le_refl _) (.cells #[.int .i64 k, v, .int .i64 mn, .int .i64 mx, .int .i64 g] 67)
  have hs' := hs.below ha
  obtain ⟨ao, cap, rfl, hm, hc⟩ := hs
  by_cases h1 : k = 1
  · subst h1
    have H1 : Hid (nodeB ⟨1, rs, mn, mx, g⟩ = (rangesOK 0 rs && (mn == 0 && mx == 0) && g == 0)) := by show _ = _; simp [nodeB]
    by_cases hmn : mn = 0
    · by_cases hmx : mx = 0
      · subst hmn hmx
        go_enter Tryz.func78, Tryz.ntmps78
        go_wp2_with (go_at_call 88; refine (setOK_ok _ _ _ hs').mono ?_; rintro e w2 ⟨rfl, hb2⟩)
        all_goals
          go_ret
          exact ⟨ret_bool (by rw [H1.out]; clear hb2 ha hs' hc H1; go_light; simp_all), below_step ha (by simp) hb2⟩
      · subst hmn
        have e0 : (mx == 0) = false := beq_eq_false_iff_ne.2 hmx
        clear hmx
        go_enter Tryz.func78, Tryz.ntmps78
        go_wp2_with (go_at_call 88; refine (setOK_ok _ _ _ hs').mono ?_; rintro e w2 ⟨rfl, hb2⟩)
        all_goals
          go_ret
          exact ⟨ret_bool (by rw [H1.out]; clear hb2 ha hs' hc H1; go_light; simp_all), below_step ha (by simp) hb2⟩
    · have e0 : (mn == 0) = false := beq_eq_false_iff_ne.2 hmn
      clear hmn
      go_enter Tryz.func78, Tryz.ntmps78
      go_wp2_with (go_at_call 88; refine (setOK_ok _ _ _ hs').mono ?_; rintro e w2 ⟨rfl, hb2⟩)
      all_goals
        go_ret
        exact ⟨ret_bool (by rw [H1.out]; clear hb2 ha hs' hc H1; go_light; simp_all), below_step ha (by simp) hb2⟩
  by_cases h2 : k = 2
  · subst h2
    clear hs'
    go_enter Tryz.func78, Tryz.ntmps78
    go_wp2
    all_goals
      go_ret
      exact ⟨ret_bool (by clear ha hc; go_light; simp_all [nodeB]), (Below.refl _ _).alloc (Nat.le_refl _) _⟩
  by_cases h3 : k = 3
  · subst h3
    clear hs'
    go_enter Tryz.func78, Tryz.ntmps78
    go_wp2
    all_goals
      go_ret
      exact ⟨ret_bool (by clear ha hc; go_light; simp_all [nodeB]), (Below.refl _ _).alloc (Nat.le_refl _) _⟩
  by_cases h4 : k = 4
  · subst h4
    clear hs'
    go_enter Tryz.func78, Tryz.ntmps78
    go_wp2_with (go_at_call 89; refine (boundsOK_ok _ _ _).mono ?_; rintro e w2 ⟨rfl, rfl⟩)
    all_goals
      go_ret
      exact ⟨ret_bool (by clear ha hc; go_light; simp_all [nodeB]), (Below.refl _ _).alloc (Nat.le_refl _) _⟩
  by_cases h5 : k = 5
  · subst h5
    clear hs'
    go_enter Tryz.func78, Tryz.ntmps78
    go_wp2
    all_goals
      go_ret
      exact ⟨ret_bool (by clear ha hc; go_light; simp_all [nodeB]), (Below.refl _ _).alloc (Nat.le_refl _) _⟩
  have e1 : (k == 1) = false := beq_eq_false_iff_ne.2 h1
  have e2 : (k == 2) = false := beq_eq_false_iff_ne.2 h2
  have e3 : (k == 3) = false := beq_eq_false_iff_ne.2 h3
  have e4 : (k == 4) = false := beq_eq_false_iff_ne.2 h4
  have e5 : (k == 5) = false := beq_eq_false_iff_ne.2 h5
  have HN : Hid (nodeB ⟨k, rs, mn, mx, g⟩ = false) := by show _ = _; simp [nodeB, h1, h2, h3, h4, h5]
  clear h1 h2 h3 h4 h5 hs'
  go_enter Tryz.func78, Tryz.ntmps78
  go_wp2
  all_goals
    go_ret
    exact ⟨ret_bool HN.out.symm, (Below.refl _ _).alloc (Nat.le_refl _) _⟩
end Go.Proofs.YtgbdlgogccgciaaGreatDoor
