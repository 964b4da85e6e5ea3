import Derived.Test.YthgaeaihfbiolaaDoorPosH
import Derived.Test.YthgaeaihfbiolaaDoorEndE
import Derived.Test.YthgaeaihfbiolaaDoorJoinStk
namespace Go.Proofs.YthgaeaihfbiolaaDoor
open Go.RowKit

def spanI (t : ByteArray) (a e : Int) : Bool := decide (t.size ≤ 4096 ∧ 0 ≤ a ∧ a ≤ e ∧ e ≤ t.size)
set_option maxRecDepth 100000 in
set_option maxHeartbeats 400000 in
theorem implSpanOK_ok (t : ByteArray) (a e : Int) (w : World) :
    Calls Tryd.prog 13 #[.string t, .int .i64 a, .int .i64 e] w fun r w' => r = .returned (.bool (spanI t a e)) ∧ w' = w := by
  have Hp : Hid (spanI t a e = decide (t.size ≤ 4096 ∧ 0 ≤ a ∧ a ≤ e ∧ e ≤ t.size)) := rfl
  by_cases h1 : (t.size : Int) ≤ 4096
  · by_cases h2 : 0 ≤ a
    · by_cases h3 : a ≤ e
      · by_cases h4 : e ≤ (t.size : Int)
        all_goals
          go_enter Tryd.func13, Tryd.ntmps13
          go_wp2
          go_ret
          exact ⟨ret_bool (by rw [Hp.out]; first | exact (decide_eq_true (by omega)).symm | exact (decide_eq_false (by omega)).symm | (rw [decide_eq_decide]; omega)), rfl⟩
      · go_enter Tryd.func13, Tryd.ntmps13
        go_wp2
        go_ret
        exact ⟨ret_bool (by rw [Hp.out]; first | exact (decide_eq_false (by omega)).symm | (rw [decide_eq_decide]; omega)), rfl⟩
    · go_enter Tryd.func13, Tryd.ntmps13
      go_wp2
      go_ret
      exact ⟨ret_bool (by rw [Hp.out]; first | exact (decide_eq_false (by omega)).symm | (rw [decide_eq_decide]; omega)), rfl⟩
  · go_enter Tryd.func13, Tryd.ntmps13
    go_wp2
    go_ret
    exact ⟨ret_bool (by rw [Hp.out]; first | exact (decide_eq_false (by omega)).symm | (rw [decide_eq_decide]; omega)), rfl⟩

set_option maxRecDepth 100000 in
set_option maxHeartbeats 400000 in
theorem mayBegin_ok (bol eol : Bool) (ao : Option Addr) (k c : Nat) (a : Nat) (w : World) :
    Calls Tryd.prog 18 #[.agg #[.bool bol, .bool eol, .slice ao k c], .int .i64 a] w fun r w' => r = .returned (.bool (a == 0 || !bol)) ∧ Below w.heap.size w w' := by
  have hb : Below w.heap.size w (w.alloc (.cells #[.bool bol, .bool eol, .slice ao k c] 37)) := (Below.refl _ _).alloc (Nat.le_refl _) _
  have h0 : ((a : Int) == 0) = (a == 0) := by
    by_cases h : a = 0
    · subst h; rfl
    · have : ((a : Int) == 0) = false := by simp; omega
      rw [this]; simp; omega
  cases hz : (a == 0) <;> cases bol
  all_goals
    rw [hz] at h0
    go_enter Tryd.func18, Tryd.ntmps18
    go_wp2
    go_ret
    exact ⟨rfl, hb⟩

set_option maxRecDepth 100000 in
set_option maxHeartbeats 400000 in
theorem mayEnd_ok (bol eol cl : Bool) (ao : Option Addr) (k c : Nat) (t : ByteArray) (e : Nat) (w : World) :
    Calls Tryd.prog 19 #[.agg #[.bool bol, .bool eol, .slice ao k c], .string t, .int .i64 e, .bool cl] w fun r w' => r = .returned (.bool ((cl && e == t.size) || !eol)) ∧ Below w.heap.size w w' := by
  have hb : Below w.heap.size w (w.alloc (.cells #[.bool bol, .bool eol, .slice ao k c] 37)) := (Below.refl _ _).alloc (Nat.le_refl _) _
  have h1 : ((e : Int) == (t.size : Int)) = (e == t.size) := by
    by_cases h : e = t.size
    · subst h; simp
    · have : ((e : Int) == (t.size : Int)) = false := by simp; omega
      rw [this]; simp; omega
  cases he : (e == t.size) <;> cases eol <;> cases cl
  all_goals
    rw [he] at h1
    go_enter Tryd.func19, Tryd.ntmps19
    go_wp2
    go_ret
    exact ⟨rfl, hb⟩

theorem placed_may (bol eol cl : Bool) (n a e : Nat) : placedB bol eol n a e cl = ((a == 0 || !bol) && ((cl && e == n) || !eol)) := by
  unfold placedB
  cases (a == 0) <;> cases bol <;> cases (e == n) <;> cases eol <;> cases cl <;> rfl

theorem Trk.start {B : Nat} {w : World} {nw bt : Nat} (hbb : B ≤ bt) (hb0 : 0 < B) (h : TrBox w bt nw (.slice none 0 0) (.slice none 0 0)) (hnw : nw ≤ 1000) (hB : Bruijn w) (mk : Nat → Nat) (f : Nat → Nat → Bool) (fr : Nat → Nat) (F : Nat → Nat → Nat) : Trk B w 0 nw bt (.slice none 0 0) (.slice none 0 0) mk f fr F :=
  ⟨h, ⟨rfl, .inl ⟨rfl, rfl⟩⟩, ⟨rfl, .inl ⟨rfl, rfl⟩⟩, ⟨fun _ hp => absurd hp (Nat.not_lt_zero _), fun _ _ hp => absurd hp (Nat.not_lt_zero _)⟩, fun _ hp => absurd hp (Nat.not_lt_zero _), Nat.zero_le _, hnw, hB, hbb, hb0⟩
end Go.Proofs.YthgaeaihfbiolaaDoor
namespace Go.Proofs.YthgaeaihfbiolaaDoor
open Go.RowKit

theorem wpList_box_eq {P : Program} {ops : Array Oper} {rest : List Oper} {o : Oper} {a : Act} {w : World} {Q : Exit → Act → World → Prop} (hg : o.guard = none) (t : TypeId) (x : Operand) (ho : o.op = .box t x) (cells : Array Value) (hx : (a.eval x).cells = cells)
    (h : wpList P ops Q rest (a.put o.dst (.pointer (some ⟨w.heap.size, 0, none⟩))) (w.alloc (.cells cells t))) : wpList P ops Q (o :: rest) a w := by
  subst hx
  refine wpList_plain hg fun K hK => ?_
  unfold Oper.wp execOp
  simp only [ho, Sem.run_bind, Instr.box, newVar, newRow, run_newObj_alloc, Sem.run_pure, Result.andThen_ok]
  exact hK _ _ h
theorem built_tracks (k : Int) : Tryd.prog.built 78 [(0, .int .i64 k)] = some #[.int .i64 k, .slice none 0 0, .slice none 0 0] := by kernel_rfl

set_option maxRecDepth 100000 in
set_option maxHeartbeats 4000000 in
theorem newTracks_ok (wt nw : Nat) (hnw : nw = (wt + 63) / 64) (hwt : wt ≤ 2001) (w : World) :
    Calls Tryd.prog 15 #[.int .i64 wt] w fun e W => e = .returned (.pointer (some ⟨w.heap.size, 0, none⟩)) ∧ W = w.alloc (.cells #[.int .i64 nw, .slice none 0 0, .slice none 0 0] 78) := by
  have e1 : ((wt : Int) + 63) / 64 = (nw : Int) := by omega
  have e2 : ((wt : Int) + 63).tdiv 64 = (nw : Int) := by rw [← e1]; exact Int.tdiv_eq_ediv_of_nonneg (by omega)
  have hb := built_tracks nw
  have hnl : nw ≤ 1000 := by omega
  clear hnw
  go_enter Tryd.func15, Tryd.ntmps15
  go_wp2_with (first | (refine wpList_build_eq rfl 78 #[(0, .tmp 5)] rfl [(0, .int .i64 nw)] (by simp [Act.eval]) _ hb ?_) | (refine wpList_box_eq rfl 78 (.tmp 6) rfl #[.int .i64 nw, .slice none 0 0, .slice none 0 0] rfl ?_))
  go_ret
  exact ⟨rfl, rfl⟩
end Go.Proofs.YthgaeaihfbiolaaDoor
