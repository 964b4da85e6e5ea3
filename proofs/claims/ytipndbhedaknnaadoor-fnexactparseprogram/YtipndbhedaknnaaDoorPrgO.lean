import Derived.Test.YtipndbhedaknnaaDoorPrgN
namespace Go.Proofs.YtipndbhedaknnaaDoor
open Go.RowKit
attribute [local go_sem ↓] Go.wp_at_zero Go.wp_at_succ

set_option maxRecDepth 100000 in
theorem heldProgram_ok (a b : Int) (v : Value) (cv : Nat → Value) (ss : List StD) (k : Nat) (w : World) (h : StR w v cv (mkSts k ss)) (h1 : k ≤ 1000) (hl : ss.length ≤ 200) (hcs : ∀ s ∈ ss, s.cases.length ≤ 100) :
    Calls Tryd.prog 9 #[.agg #[.int .i64 a, .int .i64 b, v], .int .i64 k] w fun e w' => e = .returned (.int .i64 (endK k ss : Nat)) ∧ Below w.heap.size w w' := by
  have b0 : Below w.heap.size w (w.alloc (.cells #[.int .i64 a, .int .i64 b, v] 24)) := (Below.refl _ _).alloc (Nat.le_refl _) _
  have hcl := heldStateS_ok v cv ss k _ (h.below b0) h1 hl hcs
  generalize endK k ss = m at *
  have hm : ¬((m : Nat) : Int) < 0 := by omega
  go_enter Tryd.func9, Tryd.ntmps9
  go_wp2_with (go_at_call 25; refine hcl.mono ?_; rintro e w2 ⟨rfl, hb2⟩)
  go_ret
  exact ⟨rfl, below_step b0 b0.size hb2⟩

set_option maxRecDepth 100000 in
theorem markProgram_ok {B X : Nat} (a b : Int) (v : Value) (cv : Nat → Value) (ss : List StD) (k : Nat) (w : World) (h : PrV B w v cv ss) (hB : B ≤ w.heap.size) (hX : X < w.heap.size) (hxv : v.ownBlock ≠ some X) (hxc : ∀ i, i < ss.length → (cv i).ownBlock ≠ some X) (h1 : k ≤ 1000) (hl : ss.length ≤ 200) (hcs : ∀ s ∈ ss, s.cases.length ≤ 100) :
    Calls Tryd.prog 8 #[.agg #[.int .i64 a, .int .i64 b, v], .int .i64 k] w fun e w' => e = .returned (.int .i64 (endK k ss : Nat)) ∧ PrV B w' v cv (mkSts k ss) ∧ BelX B X w w' := by
  have b0 : Below w.heap.size w (w.alloc (.cells #[.int .i64 a, .int .i64 b, v] 24)) := (Below.refl _ _).alloc (Nat.le_refl _) _
  have hcl := markStateS_ok (X := X) v cv ss k _ (h.below b0) (Nat.le_trans hB b0.size) (Nat.lt_of_lt_of_le hX b0.size) hxv hxc h1 hl hcs
  generalize endK k ss = m at *
  go_enter Tryd.func8, Tryd.ntmps8
  go_wp2_with (go_at_call 24; refine hcl.mono ?_; rintro e w2 ⟨rfl, hv2, hb2⟩)
  go_ret
  exact ⟨rfl, hv2, (b0.mono hB).trans hb2.bel, hb2.at_.trans (b0.block X hX)⟩
end Go.Proofs.YtipndbhedaknnaaDoor
