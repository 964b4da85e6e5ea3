import Derived.Test.YtipndbhedaknnaaFillR
import Derived.RangeFuncNested
import Derived.RangeFuncBound
import Derived.RangeFuncCalls
import Derived.RangeFuncLeaves
import Derived.Shelf.Abstract
import Derived.Shelf.RegionOpen
import Derived.WalkKit
import Derived.OwnWalkIn
import Derived.TacticsInMore
import Derived.LoopNIn
import Derived.LoopIn
import Derived.Lib.BufStepsIn
namespace Go.Proofs.Ytipndbhedaknnaa
open Go.RowKit Go.Shelf
attribute [local go_sem ↓] Go.wp_at_zero Go.wp_at_succ

/- WHAT STANDS AT ONE PLACE OF A TEMPLATE. -/
inductive Mk where
  | ch (c : UInt8) (s : Bool)
  | gr (g : Fin 10)
def Mk.cells : Mk → Array Value
  | .ch c s => #[.int .i64 (-1), .int .u8 c.toNat, .bool s]
  | .gr g => #[.int .i64 g.val, .int .u8 0, .bool false]
def markF : List UInt8 → Mk × Nat
  | [] => (.ch 0 false, 1)
  | [c] => (.ch c (c.toNat == 92), 1)
  | c :: d :: _ =>
    if c.toNat = 92 ∧ d.toNat = 92 then (.ch c false, 2)
    else if h : c.toNat = 92 ∧ 48 ≤ d.toNat ∧ d.toNat ≤ 57 then (.gr ⟨d.toNat - 48, by omega⟩, 2)
    else (.ch c (c.toNat == 92), 1)

set_option maxRecDepth 100000 in
set_option maxHeartbeats 1000000 in
theorem readMark_ok (t : ByteArray) (w : World) (ht : 0 < t.size) (hm : t.size ≤ 1048576) :
    Calls Try.prog 16 #[.string t] w fun e w' => e = .returned (.tuple #[.agg (markF t.data.toList).1.cells, .int .i64 (markF t.data.toList).2]) ∧ ∃ o, w' = w.alloc o := by
  have e0 := drop_at t 0 ht
  rw [List.drop_zero] at e0
  have h0 : (0 : Int) < (t.size : Int) := by omega
  have b0 := t[0].toNat_lt
  by_cases c92 : (t[0].toNat : Int) = 92
  case neg =>
    have H : Hid (markF t.data.toList = (.ch t[0] false, 1)) := by
      show _ = _
      have hb : (t[0].toNat == 92) = false := by simp; omega
      rw [e0]
      rcases t.data.toList.drop (0 + 1) with _ | ⟨d, r⟩
      · simp only [markF, hb]
      · simp only [markF, hb]; rw [if_neg (fun x => by omega), dif_neg (fun x => by omega)]
    rw [H.out]
    go_enter Try.func16, Try.ntmps16
    go_wp2
    exact bodyPost_ret (v := .tuple #[.agg (Mk.cells (.ch t[0] false)), .int .i64 1]) (by simp [results, Try.results16, go_sem, Mk.cells]) rfl ⟨rfl, _, rfl⟩
  have c92' : t[0].toNat = 92 := by omega
  have ec : t[0] = 92 := by apply UInt8.toNat_inj.1; rw [c92']; rfl
  by_cases h1 : 1 < t.size
  case neg =>
    have H : Hid (markF t.data.toList = (.ch 92 true, 1)) := by
      show _ = _
      rw [e0, List.drop_eq_nil_of_le (by simp; omega), ec]
      rfl
    rw [H.out]
    have hd : decide (1 < (t.size : Int)) = false := by simp; omega
    have h1' : (t.size : Int) = 1 := by omega
    clear ec c92'
    go_enter Try.func16, Try.ntmps16
    go_wp2
    exact bodyPost_ret (v := .tuple #[.agg (Mk.cells (.ch 92 true)), .int .i64 1]) (by simp [results, Try.results16, go_sem, Mk.cells]) rfl ⟨rfl, _, rfl⟩
  have e1 := drop_at t 1 h1
  have b1 := t[1].toNat_lt
  have h1' : (1 : Int) < (t.size : Int) := by omega
  by_cases d92 : (t[1].toNat : Int) = 92
  · have H : Hid (markF t.data.toList = (.ch 92 false, 2)) := by
      show _ = _
      rw [e0, e1, markF, if_pos ⟨by omega, by omega⟩, ec]
    rw [H.out]
    clear ec c92' e0 e1
    go_enter Try.func16, Try.ntmps16
    go_wp2
    exact bodyPost_ret (v := .tuple #[.agg (Mk.cells (.ch 92 false)), .int .i64 2]) (by simp [results, Try.results16, go_sem, Mk.cells]) rfl ⟨rfl, _, rfl⟩
  by_cases hdg : 48 ≤ (t[1].toNat : Int) ∧ (t[1].toNat : Int) ≤ 57
  · obtain ⟨g1, g2⟩ := hdg
    have H : Hid (markF t.data.toList = (.gr ⟨t[1].toNat - 48, by omega⟩, 2)) := by
      show _ = _
      rw [e0, e1, markF, if_neg (fun x => by omega), dif_pos ⟨by omega, by omega, by omega⟩]
    rw [H.out]
    clear ec c92' e0 e1
    go_enter Try.func16, Try.ntmps16
    go_wp2
    exact bodyPost_ret (v := .tuple #[.agg (Mk.cells (.gr ⟨t[1].toNat - 48, by omega⟩)), .int .i64 2]) (by simp [results, Try.results16, go_sem, Mk.cells]; omega) rfl ⟨rfl, _, rfl⟩
  · have H : Hid (markF t.data.toList = (.ch 92 true, 1)) := by
      show _ = _
      rw [e0, e1, markF, if_neg (fun x => by omega), dif_neg (fun x => hdg ⟨by omega, by omega⟩), c92', ec]
      rfl
    rw [H.out]
    clear ec c92' e0 e1
    by_cases g1 : 48 ≤ (t[1].toNat : Int)
    · have g2 : 57 < (t[1].toNat : Int) := by omega
      go_enter Try.func16, Try.ntmps16
      go_wp2
      exact bodyPost_ret (v := .tuple #[.agg (Mk.cells (.ch 92 true)), .int .i64 1]) (by simp [results, Try.results16, go_sem, Mk.cells]) rfl ⟨rfl, _, rfl⟩
    · go_enter Try.func16, Try.ntmps16
      go_wp2
      exact bodyPost_ret (v := .tuple #[.agg (Mk.cells (.ch 92 true)), .int .i64 1]) (by simp [results, Try.results16, go_sem, Mk.cells]) rfl ⟨rfl, _, rfl⟩

/-- The text of a group. -/
def grpB (tx : ByteArray) (sp : List (Int × Int)) (g : Nat) : ByteArray := if spanOKB tx.size sp g then tx.extract (sp.getD g (0, 0)).1.toNat (sp.getD g (0, 0)).2.toNat else ⟨#[]⟩
set_option maxHeartbeats 400000 in
theorem spanOK_ok (tx : ByteArray) (a b : Int) (w : World) (ht : tx.size ≤ 4096) (r : Bool) (hr : decide (0 ≤ a ∧ a ≤ b ∧ b ≤ (tx.size : Int)) = r) :
    Calls Try.prog 17 #[.string tx, .int .i64 a, .int .i64 b] w fun e w' => e = .returned (.bool r) ∧ w' = w := by
  by_cases h1 : 0 ≤ a
  case neg =>
    obtain rfl : r = false := by rw [← hr]; simp only [decide_eq_false_iff_not]; omega
    clear hr
    go_enter Try.func17, Try.ntmps17
    go_wp2
    go_ret
    exact ⟨rfl, rfl⟩
  by_cases h2 : a ≤ b
  case neg =>
    obtain rfl : r = false := by rw [← hr]; simp only [decide_eq_false_iff_not]; omega
    clear hr
    go_enter Try.func17, Try.ntmps17
    go_wp2
    go_ret
    exact ⟨rfl, rfl⟩
  by_cases h3 : b ≤ (tx.size : Int)
  case neg =>
    obtain rfl : r = false := by rw [← hr]; simp only [decide_eq_false_iff_not]; omega
    clear hr
    go_enter Try.func17, Try.ntmps17
    go_wp2
    go_ret
    exact ⟨rfl, rfl⟩
  obtain rfl : r = true := by rw [← hr]; simp only [decide_eq_true_eq]; omega
  clear hr
  go_enter Try.func17, Try.ntmps17
  go_wp2
  go_ret
  exact ⟨rfl, rfl⟩

set_option maxRecDepth 100000 in
set_option maxHeartbeats 1000000 in
theorem groupText_ok {lo : Nat} (tx : ByteArray) (v : Value) (sp : List (Int × Int)) (g : Nat) (w : World) (hs : RangesAt lo w v sp) (ht : tx.size ≤ 4096) :
    Calls Try.prog 13 #[.string tx, v, .int .i64 g] w fun e w' => e = .returned (.string (grpB tx sp g)) ∧ ∃ q, w' = w.drewN q := by
  obtain ⟨ao, cap, rfl, hm, hc⟩ := hs
  by_cases hg : (g : Int) < (sp.length : Int)
  case neg =>
    have H : Hid (grpB tx sp g = ⟨#[]⟩) := by show _ = _; unfold grpB spanOKB; rw [if_neg (by simp; omega)]
    go_enter Try.func13, Try.ntmps13
    go_wp2
    go_ret
    exact ⟨ret_str H.out.symm, 0, rfl⟩
  obtain ⟨b, so, lo1, hi1, rfl, Hn, hbl, d0, d1⟩ := hc.elem (Below.refl _ w) (k := g) (by omega)
  have hg0 : (0 : Int) ≤ (g : Int) := by omega
  cases hok : decide (0 ≤ lo1 ∧ lo1 ≤ hi1 ∧ hi1 ≤ (tx.size : Int))
  · have H : Hid (grpB tx sp g = ⟨#[]⟩) := by
      show _ = _
      unfold grpB spanOKB
      rw [Hn.out]
      rw [if_neg]
      intro x
      simp only [decide_eq_true_eq] at x
      simp only [decide_eq_false_iff_not] at hok
      exact hok x.2
    go_enter Try.func13, Try.ntmps13
    go_wp2
    go_quiet (fail)
    go_wp2_with (go_at_call 17; refine (spanOK_ok _ _ _ _ ht _ hok).mono ?_; rintro e w' ⟨rfl, rfl⟩)
    go_ret
    exact ⟨ret_str H.out.symm, _, rfl⟩
  · have hok' : 0 ≤ lo1 ∧ lo1 ≤ hi1 ∧ hi1 ≤ (tx.size : Int) := by simpa using hok
    obtain ⟨a1, a2, a3⟩ := hok'
    have H : Hid (grpB tx sp g = tx.extract lo1.toNat hi1.toNat) := by
      show _ = _
      unfold grpB spanOKB
      rw [Hn.out]
      rw [if_pos]
      simp only [decide_eq_true_eq]
      exact ⟨by omega, a1, a2, a3⟩
    go_enter Try.func13, Try.ntmps13
    go_wp2
    go_quiet (fail)
    go_wp2_with (go_at_call 17; refine (spanOK_ok _ _ _ _ ht _ hok).mono ?_; rintro e w' ⟨rfl, rfl⟩)
    go_ret
    exact ⟨ret_str H.out.symm, _, rfl⟩
end Go.Proofs.Ytipndbhedaknnaa
