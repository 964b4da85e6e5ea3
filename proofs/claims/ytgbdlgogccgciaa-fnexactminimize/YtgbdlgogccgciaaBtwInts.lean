import Derived.Test.YtgbdlgogccgciaaGen
import Derived.Deep.RegionHeld3
import Derived.Deep.DrawnRows
import Derived.Deep.QuietTactic
import Derived.BigQuiet
namespace Go.Proofs.Ytgbdlgogccgciaa
open Go.RowKit

def btw (c lo hi : Int) : Bool := decide (lo ≤ c ∧ c ≤ hi)

set_option maxHeartbeats 400000 in
theorem between_ok (c lo hi : Int) (w : World) : Calls Try.prog 23 #[.int .i64 c, .int .i64 lo, .int .i64 hi] w fun e w' => e = .returned (.bool (btw c lo hi)) ∧ w' = w := by
  by_cases h1 : lo ≤ c
  · by_cases h2 : c ≤ hi
    all_goals
      go_enter Try.func23, Try.ntmps23
      go_wp2
      go_ret
      exact ⟨ret_bool (by simp [btw]; omega), rfl⟩
  · go_enter Try.func23, Try.ntmps23
    go_wp2
    go_ret
    exact ⟨ret_bool (by simp [btw]; omega), rfl⟩

end Go.Proofs.Ytgbdlgogccgciaa
namespace Go.Proofs.Ytgbdlgogccgciaa
open Go.RowKit
attribute [local go_sem ↓] Go.wp_at_zero Go.wp_at_succ

/- SLICES OF INTS. -/
def IntCells (lo : Nat) (w : World) (ao : Option Addr) (xs : List Int) : Prop :=
  0 < xs.length → ∃ b o, ao = some ⟨b, o, none⟩ ∧ lo ≤ b ∧ b < w.heap.size ∧ ∀ i, i < xs.length → w.cell? ⟨b, o + i, none⟩ = some (.int .i64 (xs.getD i 0))
def IntsAt (lo : Nat) (w : World) (v : Value) (xs : List Int) : Prop := ∃ ao cap, v = .slice ao xs.length cap ∧ xs.length ≤ 9223372036854775807 ∧ IntCells lo w ao xs

theorem IntsAt.same {lo : Nat} {w w' : World} {v : Value} {xs : List Int} (h : IntsAt lo w v xs) (hb : Same lo w w') : IntsAt lo w' v xs := by
  obtain ⟨ao, cap, rfl, hm, h⟩ := h
  refine ⟨ao, cap, rfl, hm, fun h0 => ?_⟩
  obtain ⟨b, o, rfl, hge, hlt, hc⟩ := h h0
  exact ⟨b, o, rfl, hge, Nat.lt_of_lt_of_le hlt hb.size, fun i hi => (hb.cell (by exact hge) (by exact hlt)).trans (hc i hi)⟩
theorem IntsAt.below {lo : Nat} {w w' : World} {v : Value} {xs : List Int} (h : IntsAt lo w v xs) (hb : Below w.heap.size w w') : IntsAt lo w' v xs := h.same (.of_below hb)
theorem IntsAt.mono {lo lo' : Nat} {w : World} {v : Value} {xs : List Int} (h : IntsAt lo w v xs) (hl : lo' ≤ lo) : IntsAt lo' w v xs := by
  obtain ⟨ao, cap, rfl, hm, h⟩ := h
  refine ⟨ao, cap, rfl, hm, fun h0 => ?_⟩
  obtain ⟨b, o, rfl, hge, r⟩ := h h0
  exact ⟨b, o, rfl, Nat.le_trans hl hge, r⟩
theorem IntsAt.setCell {lo : Nat} {w : World} {v : Value} {xs : List Int} (h : IntsAt lo w v xs) {a : Addr} (ha : a.block < lo) (u : Value) : IntsAt lo (w.setCell a u) v xs := h.same (Same.setCell w ha u)
theorem IntCells.elem {lo : Nat} {w wr : World} {ao : Option Addr} {xs : List Int} (h : IntCells lo w ao xs) (hb : Below w.heap.size w wr) {k : Nat} (hk : k < xs.length) :
    ∃ (b o : Nat) (x : Int), ao = some ⟨b, o, none⟩ ∧ Hid (xs.getD k 0 = x) ∧ b < w.heap.size ∧ wr.cell? ⟨b, o + k, none⟩ = some (.int .i64 x) := by
  obtain ⟨b, o, rfl, _, hlt, hc⟩ := h (by omega)
  exact ⟨b, o, _, rfl, rfl, hlt, (hb.cell (by exact hlt)).trans (hc k hk)⟩


def szIntsF (xs : List Int) (left : Int) : Int := if left - xs.length < 0 then -1 else left - xs.length
theorem szIntsF_le (xs : List Int) (l : Int) (h : 0 ≤ l) : -1 ≤ szIntsF xs l ∧ szIntsF xs l ≤ l := by unfold szIntsF; split <;> omega

set_option maxHeartbeats 400000 in
theorem szIntS_ok (a : Option Addr) (xs : List Int) (cap : Nat) (left : Int) (w : World) (h0 : 0 ≤ left) (h1 : left ≤ 1048576) (h2 : xs.length ≤ 9223372036854775807) :
    Calls Try.prog 11 #[.slice a xs.length cap, .int .i64 left] w fun e w' => e = .returned (.int .i64 (szIntsF xs left)) ∧ w' = w := by
  by_cases hle : left - xs.length < 0
  all_goals
    go_enter Try.func11, Try.ntmps11
    go_wp2
    go_ret
    exact ⟨ret_int (by unfold szIntsF; split <;> omega), rfl⟩

theorem filled_one {xs : List Value} {k : Nat} {f : Nat → List Value} {a : Value} (h : Filled xs 1 k f) (hl : k < xs.length) (hk : f k = [a]) : Filled (xs.set k a) 1 (k + 1) f := by
  intro j hj c hc
  obtain rfl : c = 0 := by omega
  rw [Nat.mul_one, Nat.add_zero, List.getElem?_set]
  by_cases e : j = k
  · subst e; rw [hk]; simp; omega
  · rw [if_neg (by omega)]
    have := h j (by omega) 0 (by omega)
    simpa using this

set_option maxRecDepth 100000 in
set_option maxHeartbeats 400000 in
theorem toIntS_ok {lo : Nat} (v : Value) (xs : List Int) (w : World) (hs : IntsAt lo w v xs) (hn : xs.length ≤ 1048576) :
    Calls Try.prog 17 #[v] w fun e w' => ∃ v', e = .returned v' ∧ IntsAt w.heap.size w' v' xs ∧ Below w.heap.size w w' := by
  obtain ⟨ao, cap, rfl, hm, hc⟩ := hs
  obtain ⟨i0, hi, hz0, hz1, hz2⟩ := info_parts Try.infoInt
  go_enter Try.func17, Try.ntmps17
  go_wp2_with (refine wpList_make_full _ rfl _ _ 22 rfl w.heap.size 3 i0 _ 1 Try.underlying22 hi hz0 hz1 _ _ _ _ xs.length rfl rfl rfl rfl (by rw [hz2]; omega) (by unfold maxLen; omega) (Nat.le_refl _) ?_; intro w1 hown hgrow)
  have hbw : Below w.heap.size w w1 := (Below.refl _ _).grown hgrow (Nat.le_refl _) (by intro k h; cases h)
  clear hgrow
  go_loopw [4] (fun i wr => ∃ k : Nat, k ≤ xs.length ∧ i = .int .i64 k ∧ Below w.heap.size w wr ∧ ∃ zs : List Value, wr.ownsRow w.heap.size 3 1 (.slice (some ⟨w.heap.size, 0, none⟩) xs.length xs.length) xs.length zs ∧
      Filled zs 1 k (fun j => [.int .i64 (xs.getD j 0)]))
    (fun i _ => xs.length - (intOf i).toNat)
  case atStart => exact ⟨0, Nat.zero_le _, rfl, hbw, _, hown, fun j hj => absurd hj (Nat.not_lt_zero _)⟩
  case round =>
    obtain ⟨k, hk, rfl, hb, zs, hown, hfill⟩ := hrel
    by_cases hlt : k < xs.length
    · obtain ⟨b, o, x, rfl, Hn, hbl, c0⟩ := hc.elem hb hlt
      obtain ⟨u0, d0⟩ := own_cell hown (j := k) (by omega)
      have f0 := hown.frozenAt k
      go_wp2
      go_roundw
      case rel => exact ⟨k + 1, by omega, by go_num, hb.setCell (by simp) _, _, (hown.stored _ _).1, filled_one hfill (by have := hown.1; omega) (by rw [Hn.out])⟩
      case measure => simp [intOf]; omega
    · go_wp2
      have hkk : k = xs.length := by omega
      refine bodyPost_ret (v := .slice (some ⟨w.heap.size, 0, none⟩) xs.length xs.length) (by simp [results, Try.results17, go_sem]) rfl ⟨_, rfl, ⟨_, _, rfl, hm, fun _ => ⟨w.heap.size, 0, rfl, Nat.le_refl _, own_lt hown, fun i hi => ?_⟩⟩, hb⟩
      rw [hkk] at hfill
      have e0 := filled_cell hown hfill (c := 0) hi (by omega)
      simpa using e0

set_option maxRecDepth 100000 in
set_option maxHeartbeats 400000 in
theorem eqIntS_ok {l1 l2 : Nat} (v v2 : Value) (xs : List Int) (w : World) (hs : IntsAt l1 w v xs) (hs2 : IntsAt l2 w v2 xs) :
    Calls Try.prog 20 #[v, v2] w fun e w' => e = .returned (.bool true) ∧ Below w.heap.size w w' := by
  obtain ⟨ao, cap, rfl, hm, hc⟩ := hs
  obtain ⟨ao2, cap2, rfl, _, hc2⟩ := hs2
  go_enter Try.func20, Try.ntmps20
  go_wp2
  go_loopw [5] (fun i wr => ∃ k : Nat, k ≤ xs.length ∧ i = .int .i64 k ∧ Below w.heap.size w wr)
    (fun i _ => xs.length - (intOf i).toNat)
  case atStart => exact ⟨0, Nat.zero_le _, rfl, Below.refl _ _⟩
  case round =>
    obtain ⟨k, hk, rfl, hb⟩ := hrel
    by_cases hlt : k < xs.length
    · obtain ⟨b, o, x, rfl, Hn, hbl, c0⟩ := hc.elem hb hlt
      obtain ⟨b2, o2, x2, rfl, Hn2, hbl2, d0⟩ := hc2.elem hb hlt
      have hee : x = x2 := Hn.out.symm.trans Hn2.out
      subst hee
      have hi0 : (0 : Int) ≤ (k : Int) := by omega
      have hi1 : (k : Int) < (xs.length : Int) := by omega
      have hne : (x != x) = false := by simp
      go_wp2
      go_quiet (fail)
      go_wp2
      go_roundw
      case rel => exact ⟨k + 1, by omega, by go_num, below_drewN hb _⟩
      case measure => simp [intOf]; omega
    · go_wp2
      go_ret
      exact ⟨rfl, hb⟩

def allIn (lo hi : Int) (xs : List Int) : Bool := xs.all fun x => btw x lo hi
theorem allIn_drop (lo hi : Int) (xs : List Int) (k : Nat) (hk : k < xs.length) (x : Int) (h : xs.getD k 0 = x) : allIn lo hi (xs.drop k) = (btw x lo hi && allIn lo hi (xs.drop (k + 1))) := by
  rw [List.drop_eq_getElem_cons hk]
  have : xs[k] = x := by rw [← h]; simp [List.getD, hk]
  unfold allIn
  rw [List.all_cons, this]
theorem allIn_at {lo hi : Int} {xs : List Int} (h : allIn lo hi xs = true) {k : Nat} (hk : k < xs.length) : lo ≤ xs.getD k 0 ∧ xs.getD k 0 ≤ hi := by
  have := List.all_eq_true.1 h (xs.getD k 0) (by
    rw [List.getD_eq_getElem?_getD, List.getElem?_eq_getElem hk]
    exact List.getElem_mem _)
  simpa [btw] using this
end Go.Proofs.Ytgbdlgogccgciaa
