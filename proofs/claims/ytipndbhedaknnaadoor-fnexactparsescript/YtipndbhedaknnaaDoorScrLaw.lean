import Derived.Test.YtipndbhedaknnaaDoorScrS
import Derived.Test.YtipndbhedaknnaaDoorScrE
namespace Go.Proofs.YtipndbhedaknnaaDoor
open Go.RowKit
attribute [local go_sem ↓] Go.wp_at_zero Go.wp_at_succ

/-- What the code's reader of scripts answers: the slice may be nil where it is empty. -/
def ScrAnsV (w : World) (r : List (Int × List UInt8) × Int × Int) (e : Ending) (w' : World) : Prop :=
  ∃ v, e = .returned (.tuple #[v, .int .i64 r.2.1, .int .i64 r.2.2]) ∧ w'.ownsRow w.heap.size 58 2 v r.1.length (evCells r.1) ∧ Below w.heap.size w w'
theorem ScrAns.v {w : World} {r : List (Int × List UInt8) × Int × Int} {e : Ending} {w' : World} (h : ScrAns w r e w') : ScrAnsV w r e w' := by
  obtain ⟨g, cap, he, ho, hb⟩ := h
  exact ⟨_, he, ho, hb⟩
theorem scriptL_few : ∀ (ls : List (List UInt8)) (i : Nat) (evs : List (Int × List UInt8)), evs.length ≤ 4000 → (scriptL i evs ls).1.length ≤ 4000
  | [], _, _, h => by rw [scriptL]; exact h
  | raw :: rest, i, evs, h => by
    rw [scriptL]
    split
    · exact scriptL_few rest _ _ h
    · split
      · simp
      · split
        · simp
        · exact scriptL_few rest _ _ (by simp; omega)
theorem scriptF_few (t : ByteArray) : (scriptF t).1.length ≤ 4000 := by
  unfold scriptF
  split
  · simp
  · exact scriptL_few _ _ _ (by simp)

set_option maxRecDepth 100000 in
set_option maxHeartbeats 1000000 in
theorem lawScript_ok (t : ByteArray) (w : World) (hB : t.size ≤ 9223372036854775807)
    (himpl : t.size ≤ 1048576 → ∀ w : World, Calls Tryd.prog 11 #[.string t] w fun e w' => ScrAnsV w (scriptF t) e w') :
    Calls Tryd.prog 4 #[.string t] w fun e w' => e = .returned (.bool true) ∧ Below w.heap.size w w' := by
  by_cases hc : 1048576 < (t.size : Int)
  · go_enter Tryd.func4, Tryd.ntmps4
    go_wp2
    go_ret
    exact ⟨rfl, Below.refl _ _⟩
  have hc' : t.size ≤ 1048576 := by omega
  have hspec := fun w => specScript_ok t w hc'
  replace himpl := himpl hc'
  have hfew := scriptF_few t
  generalize scriptF t = r at *
  obtain ⟨evs, cd, ln⟩ := r
  simp only at hfew
  have n1 : (cd != cd) = false := by simp
  have n2 : (ln != ln) = false := by simp
  go_enter Tryd.func4, Tryd.ntmps4
  go_wp2_with fail
  refine (hspec _).mono ?_
  rintro e w1 hs1
  obtain ⟨v1, rfl, ho1, hb1⟩ := hs1.v
  clear hs1
  simp only at ho1 ⊢
  go_wp2_with fail
  refine (himpl _).mono ?_
  rintro e w2 ⟨v2, rfl, ho2, hb2⟩
  simp only at ho2 ⊢
  have B2 := below_step hb1 hb1.size hb2
  have R1 := (EvR.of ho1).below hb2
  go_wp2_with fail
  refine (eqEventS_ok v2 v1 evs _ (EvR.of ho2) R1 (by omega)).mono ?_
  rintro e w3 ⟨rfl, hb3⟩
  have B3 := below_step B2 B2.size hb3
  have hz1 := hb1.size
  have hz2 := hb2.size
  have hz3 := hb3.size
  have ho3 := ownsRow_below ho2 hb3
  have K3 : Below w1.heap.size w1 w3 := below_step hb2 hz2 hb3
  go_wp2_with fail
  refine (markEventS_ok v2 evs 1 _ ho3 (by omega) (by omega)).mono ?_
  rintro e w4 ⟨rfl, ho4, hb4⟩
  have B4 : Below w.heap.size w w4 := B3.trans (hb4.mono hz1)
  have K4 : Below w1.heap.size w1 w4 := K3.trans hb4
  have hz4 := hb4.size
  go_wp2_with fail
  refine (heldEventS_ok v2 evs.length 1 _ (by have := EvR.of (evs := mkEvs 1 evs.length) (by rw [mkEvs_len]; exact ho4); exact this) (by omega) (by omega)).mono ?_
  rintro e w5 ⟨rfl, hb5⟩
  have B5 := below_step B4 B4.size hb5
  have K5 : Below w1.heap.size w1 w5 := below_step K4 K4.size hb5
  have n3 : ((1 + 2 * (evs.length : Int)) != (1 + 2 * (evs.length : Int))) = false := by simp
  have n4 : ¬(1 + 2 * (evs.length : Int)) < 0 := by omega
  go_wp2_with fail
  refine (himpl _).mono ?_
  rintro e w6 ⟨v6, rfl, ho6, hb6⟩
  simp only at ho6 ⊢
  have B6 := below_step B5 B5.size hb6
  have K6 : Below w1.heap.size w1 w6 := below_step K5 K5.size hb6
  go_wp2_with fail
  refine (eqEventS_ok v6 v1 evs _ (EvR.of ho6) ((EvR.of ho1).below K6) (by omega)).mono ?_
  rintro e w7 ⟨rfl, hb7⟩
  go_wp2
  go_ret
  exact ⟨rfl, below_step B6 B6.size hb7⟩
end Go.Proofs.YtipndbhedaknnaaDoor
