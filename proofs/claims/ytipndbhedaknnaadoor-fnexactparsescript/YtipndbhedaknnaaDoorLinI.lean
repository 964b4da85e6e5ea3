import Derived.Test.YtipndbhedaknnaaDoorAddI
namespace Go.Proofs.YtipndbhedaknnaaDoor
open Go.RowKit
attribute [local go_sem ↓] Go.wp_at_zero Go.wp_at_succ

/- THE READERS OF A SCRIPT's LINES. -/
def LineTo (base br b : Nat) (w : World) (vv : Value) (evs : List (Int × List UInt8)) (ev : Option (Int × List UInt8)) (e : Ending) (w' : World) : Prop :=
  (ev = none → AddTo base br b w vv evs e 2 w') ∧ (∀ x, ev = some x → (evs.length = 4000 → AddTo base br b w vv evs e 3 w') ∧ (¬evs.length = 4000 → AddTo base br b w vv (evs ++ [x]) e 0 w'))
theorem add_line (base br b : Nat) (vv : Value) (evs : List (Int × List UInt8)) (ls : List (List UInt8)) (bad : Bool) (g o cap : Nat) (k : Int) (d : List UInt8) (w : World) (h : RdAt base br w vv evs) (hf : FldAt w b ls bad g o cap) (hn : evs.length ≤ 4000) (hbase : base ≤ w.heap.size) :
    Calls Tryd.prog 47 #[.pointer (some ⟨br, 0, none⟩), .pointer (some ⟨b, 0, none⟩), .agg #[.int .i64 k, strV d]] w
      (LineTo base br b w vv evs (if (!bad && decide (ls.length = 0)) = true then some (k, d) else none)) := by
  cases hr : (!bad && decide (ls.length = 0))
  · refine (add_bad base br b vv evs ls bad g o cap k d w h hf hr).mono fun e w' ha => ⟨fun _ => ha, fun x hx => ?_⟩
    rw [if_neg (by simp)] at hx
    cases hx
  · by_cases h4 : evs.length = 4000
    · refine (add_full base br b vv evs ls bad g o cap k d w h hf hr h4).mono fun e w' ha => ⟨fun hx => ?_, fun x _ => ⟨fun _ => ha, fun hn => absurd h4 hn⟩⟩
      rw [if_pos rfl] at hx
      cases hx
    · refine (add_good base br b vv evs ls bad g o cap k d w h hf hr (by omega) hbase).mono fun e w' ha => ⟨fun hx => ?_, fun x hx => ⟨fun hy => absurd hy h4, fun _ => ?_⟩⟩
      · rw [if_pos rfl] at hx
        cases hx
      · rw [if_pos rfl] at hx
        cases hx
        exact ha
theorem AddTo.after {base br b : Nat} {w w1 w' : World} {vv : Value} {evs : List (Int × List UInt8)} {e : Ending} {c : Int} (h : Only br vv.ownBlock b w w1) (k : AddTo base br b w1 vv evs e c w') : AddTo base br b w vv evs e c w' := ⟨k.1, h.trans k.2.1, k.2.2⟩
theorem LineTo.after {base br b : Nat} {w w1 w' : World} {vv : Value} {evs : List (Int × List UInt8)} {ev : Option (Int × List UInt8)} {e : Ending} (h : Only br vv.ownBlock b w w1) (k : LineTo base br b w1 vv evs ev e w') : LineTo base br b w vv evs ev e w' :=
  ⟨fun x => (k.1 x).after h, fun x hx => ⟨fun y => ((k.2 x hx).1 y).after h, fun y => ((k.2 x hx).2 y).after h⟩⟩
theorem LineTo.ret {base br b : Nat} {w w' : World} {vv : Value} {evs : List (Int × List UInt8)} {ev : Option (Int × List UInt8)} {e : Ending} (k : LineTo base br b w vv evs ev e w') : ∃ c, e = .returned (.int .i64 c) := by
  cases ev with
  | none => exact ⟨_, (k.1 rfl).1⟩
  | some x =>
    by_cases h : evs.length = 4000
    · exact ⟨_, ((k.2 x rfl).1 h).1⟩
    · exact ⟨_, ((k.2 x rfl).2 h).1⟩
def inLine (ls : List (List UInt8)) : Option (Int × List UInt8) := if ((wordOf ls).isSome && decide (ls.tail.length = 0)) = true then some (1, optL (wordOf ls)) else none
def bareLine (k : Int) (ls : List (List UInt8)) : Option (Int × List UInt8) := if decide (ls.length = 0) = true then some (k, []) else none

set_option maxRecDepth 100000 in
set_option maxHeartbeats 1000000 in
theorem tick_ok (base br b : Nat) (vv : Value) (evs : List (Int × List UInt8)) (ls : List (List UInt8)) (g o cap : Nat) (w : World) (h : RdAt base br w vv evs) (hf : FldAt w b ls false g o cap) (hn : evs.length ≤ 4000) (hbase : base ≤ w.heap.size) :
    Calls Tryd.prog 28 #[.pointer (some ⟨br, 0, none⟩), .pointer (some ⟨b, 0, none⟩)] w (LineTo base br b w vv evs (bareLine 2 ls)) := by
  have ha := add_line base br b vv evs ls false g o cap 2 [] w h hf hn hbase
  have he : (if (!false && decide (ls.length = 0)) = true then some ((2 : Int), ([] : List UInt8)) else none) = bareLine 2 ls := rfl
  rw [he] at ha
  go_enter Tryd.func28, Tryd.ntmps28
  go_wp2_with fail
  refine Calls.mono ha ?_
  intro e w' hl
  obtain ⟨c, rfl⟩ := hl.ret
  go_wp2
  go_ret
  exact hl
set_option maxRecDepth 100000 in
set_option maxHeartbeats 1000000 in
theorem eof_ok (base br b : Nat) (vv : Value) (evs : List (Int × List UInt8)) (ls : List (List UInt8)) (g o cap : Nat) (w : World) (h : RdAt base br w vv evs) (hf : FldAt w b ls false g o cap) (hn : evs.length ≤ 4000) (hbase : base ≤ w.heap.size) :
    Calls Tryd.prog 29 #[.pointer (some ⟨br, 0, none⟩), .pointer (some ⟨b, 0, none⟩)] w (LineTo base br b w vv evs (bareLine 3 ls)) := by
  have ha := add_line base br b vv evs ls false g o cap 3 [] w h hf hn hbase
  have he : (if (!false && decide (ls.length = 0)) = true then some ((3 : Int), ([] : List UInt8)) else none) = bareLine 3 ls := rfl
  rw [he] at ha
  go_enter Tryd.func29, Tryd.ntmps29
  go_wp2_with fail
  refine Calls.mono ha ?_
  intro e w' hl
  obtain ⟨c, rfl⟩ := hl.ret
  go_wp2
  go_ret
  exact hl
set_option maxRecDepth 100000 in
set_option maxHeartbeats 1000000 in
theorem in_ok (base br b : Nat) (vv : Value) (evs : List (Int × List UInt8)) (ls : List (List UInt8)) (g o cap : Nat) (w : World) (h : RdAt base br w vv evs) (hf : FldAt w b ls false g o cap) (hn : evs.length ≤ 4000) (hbase : base ≤ w.heap.size) (hbb : br ≠ b) (hvb : vv.ownBlock ≠ some b) (hsz : (ls.headD []).length ≤ 1048576) :
    Calls Tryd.prog 27 #[.pointer (some ⟨br, 0, none⟩), .pointer (some ⟨b, 0, none⟩)] w (LineTo base br b w vv evs (inLine ls)) := by
  have hw := word_ok b ls false g o cap w hf hsz
  go_enter Tryd.func27, Tryd.ntmps27
  go_wp2_with fail
  refine hw.mono ?_
  rintro e w1 ⟨rfl, hg, g1, o1, cap1, hf1⟩
  have h1 : RdAt base br w1 vv evs := ⟨h.1.kept hg (by simpa using hbb), h.2.kept hg (.inr hvb)⟩
  have ha := add_line base br b vv evs ls.tail _ g1 o1 cap1 1 (optL (wordOf ls)) w1 h1 hf1 hn (Nat.le_trans hbase hg.size)
  have he : (if (!(false || !(wordOf ls).isSome) && decide (ls.tail.length = 0)) = true then some ((1 : Int), optL (wordOf ls)) else none) = inLine ls := by
    unfold inLine
    cases (wordOf ls).isSome <;> rfl
  rw [he] at ha
  clear he hw
  generalize optL (wordOf ls) = d at *
  unfold strV at *
  go_wp2_with fail
  refine Calls.mono ha ?_
  intro e w' hl
  obtain ⟨c, rfl⟩ := hl.ret
  go_wp2
  go_ret
  exact hl.after (Only.of_b hg)
end Go.Proofs.YtipndbhedaknnaaDoor
