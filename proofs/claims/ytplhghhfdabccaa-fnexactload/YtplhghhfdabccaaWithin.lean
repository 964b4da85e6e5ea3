import Derived.Test.YtplhghhfdabccaaDfaS
namespace Go.Proofs.Ytplhghhfdabccaa
open Go.RowKit

set_option maxRecDepth 100000 in
set_option maxHeartbeats 400000 in
theorem within_ok {l : Nat} (lo hi : Int) (v : Value) (xs : List Int) (w : World) (hs : IntsAt l w v xs) :
    Calls Try.prog 65 #[v, .int .i64 lo, .int .i64 hi] w fun e w' => e = .returned (.bool (allIn lo hi xs)) ∧ w' = w := by
  obtain ⟨ao, cap, rfl, hm, hc⟩ := hs
  go_enter Try.func65, Try.ntmps65
  go_wp2
  go_loop [11] (fun i => ∃ k : Nat, k ≤ xs.length ∧ i = .int .i64 k ∧ Hid (allIn lo hi xs = allIn lo hi (xs.drop k)))
    (fun i => xs.length - (intOf i).toNat)
  case atStart => exact ⟨0, Nat.zero_le _, rfl, rfl⟩
  case round =>
    obtain ⟨k, hk, rfl, HS⟩ := hrel
    by_cases hlt : k < xs.length
    · obtain ⟨b, o, x, rfl, Hn, hbl, c0⟩ := hc.elem (Below.refl _ _) hlt
      have HD : Hid _ := allIn_drop lo hi xs k hlt x Hn.out
      by_cases h1 : x < lo
      · have hb : Hid (btw x lo hi = false) := by show _ = _; simp [btw]; omega
        go_wp2
        go_ret
        exact ⟨ret_bool (by rw [HS.out, HD.out, hb.out, Bool.false_and]), rfl⟩
      by_cases h2 : hi < x
      · have hb : Hid (btw x lo hi = false) := by show _ = _; simp [btw]; omega
        go_wp2
        go_ret
        exact ⟨ret_bool (by rw [HS.out, HD.out, hb.out, Bool.false_and]), rfl⟩
      have hb : Hid (btw x lo hi = true) := by show _ = _; simp [btw]; omega
      go_wp2
      go_round
      case rel => exact ⟨k + 1, by omega, by go_num, by show _ = _; rw [HS.out, HD.out, hb.out, Bool.true_and]⟩
      case measure => simp [intOf]; omega
    · go_wp2
      go_ret
      exact ⟨ret_bool (by rw [HS.out, List.drop_eq_nil_of_le (by omega)]; rfl), rfl⟩

set_option maxHeartbeats 400000 in
theorem answersOK_ok {l : Nat} (v : Value) (xs : List Int) (w : World) (hs : IntsAt l w v xs) :
    Calls Try.prog 66 #[v] w fun e w' => e = .returned (.bool (allIn (-1) 99 xs)) ∧ w' = w := by
  go_enter Try.func66, Try.ntmps66
  go_wp2_with fail
  refine (within_ok (-1) 99 _ xs _ hs).mono ?_
  rintro e w' ⟨rfl, rfl⟩
  go_wp2
  go_ret
  exact ⟨rfl, rfl⟩

/-- What classesOK answers. -/
def clsB (xs : List Int) (wd : Int) : Bool := decide (xs.length = 256) && btw wd 1 256 && allIn 0 (wd - 1) xs

set_option maxRecDepth 100000 in
set_option maxHeartbeats 400000 in
theorem classesOK_ok {l : Nat} (v : Value) (xs : List Int) (wd : Int) (w : World) (hs : IntsAt l w v xs) :
    Calls Try.prog 64 #[v, .int .i64 wd] w fun e w' => e = .returned (.bool (clsB xs wd)) ∧ w' = w := by
  by_cases h1 : xs.length = 256
  case neg =>
    have H : Hid (clsB xs wd = false) := by show _ = _; simp [clsB, h1]
    obtain ⟨ao, cap, rfl, hm, hc⟩ := hs
    clear hc
    have b1 : ((xs.length : Int) == 256) = false := by simp; omega
    clear h1
    go_enter Try.func64, Try.ntmps64
    go_wp2
    go_ret
    exact ⟨ret_bool H.out.symm, rfl⟩
  have b1 : ((xs.length : Int) == 256) = true := by simp [h1]
  have hs1 := hs
  obtain ⟨ao, cap, rfl, hm, hc⟩ := hs
  clear hc
  by_cases h2 : 1 ≤ wd
  case neg =>
    have H : Hid (clsB xs wd = false) := by show _ = _; simp [clsB, btw, h2]
    clear h1
    go_enter Try.func64, Try.ntmps64
    go_wp2
    go_ret
    exact ⟨ret_bool H.out.symm, rfl⟩
  by_cases h3 : wd ≤ 256
  case neg =>
    have H : Hid (clsB xs wd = false) := by show _ = _; simp [clsB, btw, h3]
    clear h1
    go_enter Try.func64, Try.ntmps64
    go_wp2
    go_ret
    exact ⟨ret_bool H.out.symm, rfl⟩
  have H : Hid (clsB xs wd = allIn 0 (wd - 1) xs) := by show _ = _; simp [clsB, btw, h1, h2, h3]
  clear h1
  go_enter Try.func64, Try.ntmps64
  go_wp2_with fail
  refine (within_ok _ _ _ xs _ hs1).mono ?_
  rintro e w' ⟨rfl, rfl⟩
  go_wp2
  go_ret
  exact ⟨ret_bool H.out.symm, rfl⟩
end Go.Proofs.Ytplhghhfdabccaa
