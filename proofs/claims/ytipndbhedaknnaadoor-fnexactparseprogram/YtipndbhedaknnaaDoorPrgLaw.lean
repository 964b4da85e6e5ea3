import Derived.Test.YtipndbhedaknnaaDoorPrgS
import Derived.Test.YtipndbhedaknnaaDoorRow
import Derived.Test.YtipndbhedaknnaaDoorPrgO
import Derived.Test.YtipndbhedaknnaaDoorPrgA
import Derived.Test.YtipndbhedaknnaaDoorRpgI
namespace Go.Proofs.YtipndbhedaknnaaDoor
open Go.RowKit
attribute [local go_sem ↓] Go.wp_at_zero Go.wp_at_succ

theorem progL_few : ∀ (ls : List (List UInt8)) (i : Nat) (p : PrD), PrgOK p → PrgOK (progL i p ls).1
  | [], _, _, h => by
    rw [progL]
    split
    · exact PrgOK.zero
    · exact h
  | raw :: rest, i, p, h => by
    rw [progL]
    split
    · exact progL_few rest _ _ h
    · split
      · exact PrgOK.zero
      · split
        · exact PrgOK.zero
        · split
          · exact PrgOK.zero
          · exact progL_few rest _ _ (h.step _ (by simp_all [readF]) (by simp_all [readF]) (by simp_all [readF]))
theorem progF_few (t : ByteArray) : PrgOK (progF t).1 := by
  unfold progF
  split
  · exact PrgOK.zero
  · exact progL_few _ _ _ PrgOK.zero

theorem row_three {w : World} {g : Nat} {a b c : Value} {t : TypeId} (h : w.heap[g]? = some (.cells #[a, b, c] t (0, 0))) : w.cell? ⟨g, 0, none⟩ = some a ∧ w.cell? ⟨g, 1, none⟩ = some b ∧ w.cell? ⟨g, 2, none⟩ = some c := by
  exact ⟨row_cells h 0, row_cells h 1, row_cells h 2⟩
theorem box_new (w : World) (a b : Int) (v : Value) : (w.alloc (.cells #[.int .i64 a, .int .i64 b, v] 24)).heap[w.heap.size]? = some (.cells #[.int .i64 a, .int .i64 b, v] 24 (0, 0)) := heap_alloc_new _ _

set_option maxRecDepth 100000 in
set_option maxHeartbeats 1000000 in
theorem lawProgram_ok (t : ByteArray) (w : World) (hB : t.size ≤ 9223372036854775807)
    (himpl : t.size ≤ 1048576 → ∀ w : World, Calls Tryd.prog 6 #[.string t] w fun e w' => PrgAnsV w (progF t) e w') :
    Calls Tryd.prog 3 #[.string t] w fun e w' => e = .returned (.bool true) ∧ Below w.heap.size w w' := by
  by_cases hc : 1048576 < (t.size : Int)
  · go_enter Tryd.func3, Tryd.ntmps3
    go_wp2
    go_ret
    exact ⟨rfl, Below.refl _ _⟩
  have hc' : t.size ≤ 1048576 := by omega
  have hspec := fun w => specProgram_ok t w hc'
  replace himpl := himpl hc'
  have hfew := (progF_few t).few
  have hcas := (progF_few t).cas
  generalize progF t = r at *
  obtain ⟨⟨lim, most, ss⟩, cd, ln⟩ := r
  simp only at hfew hcas
  have hss : ss.length ≤ 1048576 := by omega
  have hcs : ∀ s ∈ ss, s.cases.length ≤ 1048576 := fun s hs => Nat.le_trans (hcas s hs) (by omega)
  have n1 : (cd != cd) = false := by simp
  have n2 : (ln != ln) = false := by simp
  go_enter Tryd.func3, Tryd.ntmps3
  go_wp2_with fail
  refine (hspec _).mono ?_
  rintro e w1 ⟨v1, u1, rfl, ho1, hb1⟩
  simp only at ho1 ⊢
  obtain ⟨ao1, cap1, hv1, -⟩ := StR.of ho1
  subst hv1
  have hz1 := hb1.size
  have r1 := box_new w1 lim most (.slice ao1 ss.length cap1)
  have bW1 : Below w.heap.size w (w1.alloc (.cells #[.int .i64 lim, .int .i64 most, .slice ao1 ss.length cap1] 24)) := hb1.alloc hz1 _
  have kW1 : Below w1.heap.size w1 (w1.alloc (.cells #[.int .i64 lim, .int .i64 most, .slice ao1 ss.length cap1] 24)) := (Below.refl _ _).alloc (Nat.le_refl _) _
  go_wp2_with fail
  refine (himpl _).mono ?_
  rintro e w2 ⟨v2, u2, rfl, ho2, hb2⟩
  simp only at ho2 ⊢
  obtain ⟨ao2, cap2, hv2, -⟩ := StR.of ho2
  subst hv2
  have B2 := below_step bW1 bW1.size hb2
  have K2 := below_step kW1 kW1.size hb2
  have r2 := row_below r1 hb2
  have hzW := hb2.size
  generalize HB1 : (w1.alloc (.cells #[.int .i64 lim, .int .i64 most, .slice ao1 ss.length cap1] 24)).heap.size = B at *
  have hB1 : w1.heap.size < B := by rw [← HB1]; simp
  clear HB1 hb2 r1 bW1 kW1
  have hlt2 := row_lt r2
  have g2 := box_new w2 lim most (.slice ao2 ss.length cap2)
  have r2a : (w2.alloc (.cells #[.int .i64 lim, .int .i64 most, .slice ao2 ss.length cap2] 24)).heap[w1.heap.size]? = _ := row_alloc r2
  have aW : Below w2.heap.size w2 (w2.alloc (.cells #[.int .i64 lim, .int .i64 most, .slice ao2 ss.length cap2] 24)) := (Below.refl _ _).alloc (Nat.le_refl _) _
  have B2a := below_step B2 B2.size aW
  have K2a := below_step K2 K2.size aW
  have P2a := ho2.below aW
  have R1 := (StR.of ho1).below K2a
  have hX := fun b h => (ho2.lt (b := b) h).2
  have hxv : (Value.slice ao2 ss.length cap2).ownBlock ≠ some w2.heap.size := fun e => Nat.lt_irrefl _ (hX _ (.inl e))
  have hxc : ∀ i, i < ss.length → (u2 i).ownBlock ≠ some w2.heap.size := fun i hi e => Nat.lt_irrefl _ (hX _ (.inr ⟨i, hi, e⟩))
  have hs2 : B ≤ w2.heap.size := hzW
  clear ho2 hX B2 K2 aW
  obtain ⟨a0, a1, a2⟩ := row_three r2
  go_wp2_with fail
  clear a0 a1 a2
  refine (eqProgram_ok lim most _ _ u2 u1 ss _ (StR.of P2a) R1 hss hcs).mono ?_
  rintro e w3 ⟨rfl, hb3⟩
  have B3 := below_step B2a B2a.size hb3
  have K3 := below_step K2a K2a.size hb3
  have P3 := P2a.below hb3
  have g3 := row_below g2 hb3
  have r3 := row_below r2a hb3
  clear g2 r2a hb3 P2a R1 B2a K2a
  have hg3 := row_lt g3
  generalize HX : w2.heap.size = X at *
  clear hlt2 HX hzW r2
  clear w2
  obtain ⟨a0, a1, a2⟩ := row_three g3
  go_wp2_with fail
  clear a0 a1 a2
  refine (markProgram_ok (B := B) (X := X) lim most _ u2 ss 1 _ P3 (by omega) hg3 hxv hxc (by omega) hfew hcas).mono ?_
  rintro e w4 ⟨rfl, ho4, hb4⟩
  have B4 : Below w.heap.size w w4 := B3.trans (hb4.bel.mono (by omega))
  have K4 : Below w1.heap.size w1 w4 := K3.trans (hb4.bel.mono (by omega))
  have g4 := hb4.at_.trans g3
  have r4 := (hb4.bel.block w1.heap.size hB1).trans r3
  clear hb4 g3 r3 B3 K3 P3 hg3
  obtain ⟨a0, a1, a2⟩ := row_three g4
  go_wp2_with fail
  clear a0 a1 a2
  refine (heldProgram_ok lim most _ u2 ss 1 _ (StR.of ho4) (by omega) hfew hcas).mono ?_
  rintro e w5 ⟨rfl, hb5⟩
  have B5 := below_step B4 B4.size hb5
  have K5 := below_step K4 K4.size hb5
  have r5 := row_below r4 hb5
  clear ho4 g4 r4 B4 K4 hb5
  generalize endK 1 ss = q at *
  have n3 : (((q : Nat) : Int) != ((q : Nat) : Int)) = false := by simp
  have n4 : ¬((q : Nat) : Int) < 0 := by omega
  go_wp2_with fail
  refine (himpl _).mono ?_
  rintro e w6 ⟨v6, u6, rfl, ho6, hb6⟩
  simp only at ho6 ⊢
  obtain ⟨ao6, cap6, hv6, -⟩ := StR.of ho6
  subst hv6
  have B6 := below_step B5 B5.size hb6
  have K6 := below_step K5 K5.size hb6
  have r6 := row_below r5 hb6
  have hlt6 := row_lt r6
  clear r5 hb6 B5 K5
  have aW : Below w6.heap.size w6 (w6.alloc (.cells #[.int .i64 lim, .int .i64 most, .slice ao6 ss.length cap6] 24)) := (Below.refl _ _).alloc (Nat.le_refl _) _
  have B6a := below_step B6 B6.size aW
  have K6a := below_step K6 K6.size aW
  have P6 := StR.of (ho6.below aW)
  have R6 := (StR.of ho1).below K6a
  obtain ⟨a0, a1, a2⟩ := row_three r6
  go_wp2_with fail
  clear a0 a1 a2
  refine (eqProgram_ok lim most _ _ u6 u1 ss _ P6 R6 hss hcs).mono ?_
  rintro e w7 ⟨rfl, hb7⟩
  go_wp2
  go_ret
  exact ⟨rfl, below_step B6a B6a.size hb7⟩
end Go.Proofs.YtipndbhedaknnaaDoor
