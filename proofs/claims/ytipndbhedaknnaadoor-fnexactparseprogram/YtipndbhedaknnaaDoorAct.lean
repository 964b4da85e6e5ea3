import Derived.Test.YtipndbhedaknnaaDoorNum
namespace Go.Proofs.YtipndbhedaknnaaDoor
open Go.RowKit
attribute [local go_sem ↓] Go.wp_at_zero Go.wp_at_succ

structure ActD where
  go : Int
  ex : Int
  send : List UInt8
def ActD.zero : ActD := ⟨0, 0, []⟩
def isX : List UInt8 → Bool
  | [] => false
  | c :: _ => decide ((c.toNat : Int) = 120)
theorem isX_at (t : ByteArray) : isX t.data.toList = decide (atF t 0 = 120) := by
  by_cases h0 : 0 < t.size
  · have e0 : atF t 0 = (t[0].toNat : Int) := by unfold atF; rw [dif_pos h0]
    have := drop_at t 0 h0
    rw [List.drop_zero] at this
    rw [this, e0]
    rfl
  · have e0 : atF t 0 = -1 := by unfold atF; rw [dif_neg h0]
    have : t.data.toList = [] := List.eq_nil_of_length_eq_zero (by rw [Array.length_toList]; show t.size = 0; omega)
    rw [this, e0]
    rfl
/-- An action from its target and its word. -/
def actF (tg wd : List UInt8) : ActD × Bool :=
  match wordF wd with
  | none => (.zero, false)
  | some send => if isX tg then (⟨-1, numF (tg.drop 1), send⟩, btw (numF (tg.drop 1)) 0 255) else (⟨numF tg, 0, send⟩, decide (0 ≤ numF tg))
theorem actF_none {tg wd : List UInt8} (h : wordF wd = none) : actF tg wd = (.zero, false) := by unfold actF; rw [h]
theorem actF_x {tg wd send : List UInt8} (h : wordF wd = some send) (hx : isX tg = true) : actF tg wd = (⟨-1, numF (tg.drop 1), send⟩, btw (numF (tg.drop 1)) 0 255) := by
  unfold actF; rw [h]; simp only; rw [if_pos hx]
theorem actF_n {tg wd send : List UInt8} (h : wordF wd = some send) (hx : isX tg = false) : actF tg wd = (⟨numF tg, 0, send⟩, decide (0 ≤ numF tg)) := by
  unfold actF; rw [h]; simp only; rw [if_neg (by simp [hx])]
def actV (a : ActD) : Value := .agg #[.int .i64 a.go, .int .i64 a.ex, strV a.send]
theorem ext_one (t : ByteArray) : (t.extract 1 t.size).data.toList = t.data.toList.drop 1 := by
  rw [ext_list]
  apply List.take_of_length_le
  rw [List.length_drop, Array.length_toList]
  exact Nat.le_refl _

set_option maxRecDepth 100000 in
set_option maxHeartbeats 1000000 in
theorem l5Action_ok (tg wd : ByteArray) (w : World) (h1 : tg.size ≤ 1048576) (h2 : wd.size ≤ 1048576) :
    Calls Tryd.prog 34 #[.string tg, .string wd] w fun e w' => e = .returned (.tuple #[actV (actF tg.data.toList wd.data.toList).1, .bool (actF tg.data.toList wd.data.toList).2]) ∧ Below w.heap.size w w' := by
  have r0 : (w.alloc (.cells #[.int .i64 0, .int .i64 0, .string ⟨#[]⟩] 38)).heap[w.heap.size]? = some (.cells #[.int .i64 0, .int .i64 0, .string ⟨#[]⟩] 38 (0, 0)) := heap_alloc_new _ _
  have hb0 : Below w.heap.size w (w.alloc (.cells #[.int .i64 0, .int .i64 0, .string ⟨#[]⟩] 38)) := (Below.refl _ _).alloc (Nat.le_refl _) _
  go_enter Tryd.func34, Tryd.ntmps34
  go_wp2_with fail
  refine (l5Word_ok wd _ h2).mono ?_
  rintro e w1 ⟨rfl, hb1⟩
  have r1 := row_below r0 hb1
  have hbb := below_step hb0 hb0.size hb1
  clear r0 hb0 hb1
  have c0 := row_cells r1 0
  have c1 := row_cells r1 1
  have c2 := row_cells r1 2
  have f0 := frozen_of_row _ _ 0 _ _ r1
  have f1 := frozen_of_row _ _ 1 _ _ r1
  have f2 := frozen_of_row _ _ 2 _ _ r1
  simp at c0 c1 c2
  clear r1
  have hx := isX_at tg
  cases hw : wordF wd.data.toList with
  | none =>
    have HA : Hid _ := actF_none (tg := tg.data.toList) hw
    unfold strV optL
    simp only [Option.isSome_none, Option.getD_none]
    go_wp2
    exact bodyPost_ret (v := .tuple #[.agg #[.int .i64 0, .int .i64 0, .string ⟨#[]⟩], .bool false]) (by simp [results, Tryd.results34, go_sem, c0, c1, c2]) rfl ⟨by rw [HA.out]; rfl, ((hbb.setCell (Nat.le_refl _) _).setCell (Nat.le_refl _) _).setCell (Nat.le_refl _) _⟩
  | some send =>
    unfold strV optL
    simp only [Option.isSome_some, Option.getD_some]
    obtain ⟨n1, n2⟩ := numF_bd (tg.data.toList.drop 1)
    obtain ⟨m1, m2⟩ := numF_bd tg.data.toList
    by_cases h120 : atF tg 0 = 120
    · have HA : Hid _ := actF_x hw (hx.trans (by simpa using h120))
      have hpos : 0 < tg.size := by
        apply Classical.byContradiction
        intro hn
        have e0 : atF tg 0 = -1 := by unfold atF; rw [dif_neg hn]
        omega
      have hp1 : (1 : Int) ≤ (tg.size : Int) := by omega
      have hxs : (tg.extract 1 tg.size).size ≤ 1048576 := by rw [ByteArray.size_extract]; omega
      have hnx := fun W => l5Number_ok (tg.extract 1 tg.size) W hxs
      rw [ext_one] at hnx
      clear hx
      go_wp2_with (first | (go_at_call 45; refine (l1At_ok tg 0 _ _ rfl).mono ?_; rintro e w' ⟨rfl, hw'⟩; subst w') | (go_at_call 32; refine (hnx _).mono ?_; rintro e w' ⟨rfl, hw'⟩; subst w') | (go_at_call 33; refine (between_ok _ _ _ _).mono ?_; rintro e w' ⟨rfl, hw'⟩; subst w'))
      exact bodyPost_ret (v := .tuple #[.agg #[.int .i64 (-1), .int .i64 (numF (tg.data.toList.drop 1)), .string ⟨send.toArray⟩], .bool (btw (numF (tg.data.toList.drop 1)) 0 255)]) (by simp [results, Tryd.results34, go_sem, c0, c1, c2]) rfl ⟨by rw [HA.out]; rfl, ((hbb.setCell (Nat.le_refl _) _).setCell (Nat.le_refl _) _).setCell (Nat.le_refl _) _⟩
    · have HA : Hid _ := actF_n hw (hx.trans (by simpa using h120))
      have hnx := fun W => l5Number_ok tg W h1
      clear hx
      go_wp2_with (first | (go_at_call 45; refine (l1At_ok tg 0 _ _ rfl).mono ?_; rintro e w' ⟨rfl, hw'⟩; subst w') | (go_at_call 32; refine (hnx _).mono ?_; rintro e w' ⟨rfl, hw'⟩; subst w'))
      exact bodyPost_ret (v := .tuple #[.agg #[.int .i64 (numF tg.data.toList), .int .i64 0, .string ⟨send.toArray⟩], .bool (decide (0 ≤ numF tg.data.toList))]) (by simp [results, Tryd.results34, go_sem, c0, c1, c2]) rfl ⟨by rw [HA.out]; rfl, ((hbb.setCell (Nat.le_refl _) _).setCell (Nat.le_refl _) _).setCell (Nat.le_refl _) _⟩
end Go.Proofs.YtipndbhedaknnaaDoor
