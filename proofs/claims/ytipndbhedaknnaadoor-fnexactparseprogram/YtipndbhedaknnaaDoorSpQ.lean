import Derived.Test.YtipndbhedaknnaaDoorSpS
import Derived.Test.YtipndbhedaknnaaDoorRfLaw
namespace Go.Proofs.YtipndbhedaknnaaDoor
open Go.RowKit
attribute [local go_sem] Oper.semAt_some

/- strings.SplitSeq at one byte: its iterator. -/
/-- A line that isn't too long for the walk. -/
abbrev Ln := { x : ByteArray // x.size ≤ 1048576 }
def toL (b : Ln) : List UInt8 := b.1.data.toList
/-- How long the string in a box is. -/
def boxLen (b : Nat) (W : World) : Nat := match W.cell? ⟨b, 0, none⟩ with
  | some (.string r) => r.size
  | _ => 0
theorem boxLen_eq {b : Nat} {W : World} {t : TypeId} {r : ByteArray} (h : Boxed W b t (.string r)) : boxLen b W = r.size := by unfold boxLen; rw [h.cell]
structure SqSt (c : UInt8) (T : List UInt8) (r : ByteArray) (pre : List Ln) : Prop where
  eq : pre.map toL ++ cutF c r.data.toList = cutF c T

set_option maxRecDepth 100000 in
set_option maxHeartbeats 1000000 in
theorem splitSeq_in (n : Nat) (t sep : ByteArray) (w : World) :
    CallsIn Fence.wide n Tryd.prog 52 #[.string t, .string sep, .int .i64 0] w fun e w' => e = .returned (.func (.func 59) #[] #[.pointer (some ⟨w.heap.size + 1, 0, none⟩), .pointer (some ⟨w.heap.size, 0, none⟩), .pointer (some ⟨w.heap.size + 1 + 1, 0, none⟩)]) ∧ w' = ((w.alloc (.cells #[.string t] 9)).alloc (.cells #[.string sep] 9)).alloc (.cells #[.int .i64 0] 3) := by
  refine callsIn_of_wp Tryd.func52 rfl trivial ?_ rfl
  simp only [Tryd.ntmps52, List.size_toArray, List.length_cons, List.length_nil, Nat.reduceAdd, Nat.reduceSub, Array.replicate_succ, Array.replicate_zero, List.push_toArray, List.append_toArray, List.nil_append, List.cons_append]
  gi_wp2
  go_ret
  exact ⟨rfl, rfl⟩
set_option maxRecDepth 100000 in
set_option maxHeartbeats 1000000 in
theorem splitSeqO_in (n : Nat) (hn : 1 ≤ n) (t sep : ByteArray) (w : World) :
    CallsIn Fence.wide n Tryd.prog 40 #[.string t, .string sep] w fun e w' => e = .returned (.func (.func 59) #[] #[.pointer (some ⟨w.heap.size + 1, 0, none⟩), .pointer (some ⟨w.heap.size, 0, none⟩), .pointer (some ⟨w.heap.size + 1 + 1, 0, none⟩)]) ∧ w' = ((w.alloc (.cells #[.string t] 9)).alloc (.cells #[.string sep] 9)).alloc (.cells #[.int .i64 0] 3) := by
  refine callsIn_of_wp Tryd.func40 rfl trivial ?_ rfl
  simp only [Tryd.ntmps40, List.size_toArray, List.length_cons, List.length_nil, Nat.reduceAdd, Nat.reduceSub, Array.replicate_succ, Array.replicate_zero, List.push_toArray, List.append_toArray, List.nil_append, List.cons_append]
  gi_wp2_with (refine ⟨trivial, ?_⟩; gi_at_call 52; refine (splitSeq_in _ _ _ _).mono ?_; rintro e w' ⟨rfl, rfl⟩)
  go_ret
  exact ⟨rfl, rfl⟩

set_option maxRecDepth 100000 in
set_option maxHeartbeats 2000000 in
theorem splitSeq1_in (n l B : Nat) (t : ByteArray) (c : UInt8) (hm : t.size ≤ 1048576) (hn : 1 ≤ n) (J Jx : List Ln → World → Prop) (W : World) (hJ : ∀ s A v, J s A → J s (A.setCell ⟨B, 0, none⟩ v))
    (hY : ∀ pre x W1, J pre W1 → pre.length < (cutF c t.data.toList).length → YieldAt Fence.wide (n - 1) Tryd.prog l #[.string x.1] W1 fun e W' =>
      (e = .returned (.bool true) ∧ J (pre ++ [x]) W' ∧ ∀ k ∈ [B, B + 1, B + 1 + 1], W'.heap[k]? = W1.heap[k]?) ∨ (e = .returned (.bool false) ∧ Jx (pre ++ [x]) W'))
    (hB : Boxed W B 9 (.string t)) (hB1 : Boxed W (B + 1) 9 (.string ⟨#[c]⟩)) (hB2 : Boxed W (B + 1 + 1) 3 (.int .i64 0)) (h0 : J [] W) :
    CallsIn Fence.wide n Tryd.prog 59 #[.func (.yield l) #[] #[], .pointer (some ⟨B + 1, 0, none⟩), .pointer (some ⟨B, 0, none⟩), .pointer (some ⟨B + 1 + 1, 0, none⟩)] W fun e W' => (∃ v, e = .returned v) ∧
      ((∃ ys, ys.map toL = cutF c t.data.toList ∧ J ys W') ∨ (∃ pre, pre.map toL <+: cutF c t.data.toList ∧ Jx pre W')) := by
  have c1 := hB1.cell
  have hz1 : (⟨#[c]⟩ : ByteArray).size = 1 := rfl
  refine callsIn_of_wp Tryd.func59 rfl trivial ?_ rfl
  simp only [Tryd.ntmps59, List.size_toArray, List.length_cons, List.length_nil, Nat.reduceAdd, Nat.reduceSub, Array.replicate_succ, Array.replicate_zero, List.push_toArray, List.append_toArray, List.nil_append, List.cons_append]
  gi_wp2
  gi_loopw [7] (fun _ wr => ∃ (r : ByteArray) (pre : List Ln), r.size ≤ t.size ∧ Hid (SqSt c t.data.toList r pre) ∧ J pre wr ∧ Boxed wr B 9 (.string r) ∧ Boxed wr (B + 1) 9 (.string ⟨#[c]⟩) ∧ Boxed wr (B + 1 + 1) 3 (.int .i64 0))
    (fun _ wr => boxLen B wr)
  case atStart =>
    exact ⟨t, [], Nat.le_refl _, ⟨rfl⟩, h0, hB, hB1, hB2⟩
  case round =>
    obtain ⟨r, pre, hrs, HS, hJs, b0, b1, b2⟩ := hrel
    clear c1
    have c0 := b0.cell
    have c1 := b1.cell
    have c2 := b2.cell
    have f0 := b0.frozen
    by_cases hp : posF c r.data.toList = -1
    · have hix := index_ok r c
      rw [hp] at hix
      have Hfin : Hid ((pre ++ [(⟨r, by omega⟩ : Ln)]).map toL = cutF c t.data.toList) := by
        show _ = _
        rw [← HS.out.eq, (cut_none c _ hp).1]
        simp [toL]
      have hlen : pre.length < (cutF c t.data.toList).length := by
        have := congrArg List.length Hfin.out
        simp at this
        omega
      obtain ⟨fn, tmps, assign, body, hy, hR⟩ := hY pre ⟨r, by omega⟩ wr hJs hlen
      dsimp only at hy
      gi_wp2_with (refine ⟨trivial, ?_⟩; gi_at_call 61; refine (callsIn_wide.2 (hix _)).mono ?_; rintro e w' ⟨rfl, hw'⟩; subst w')
      refine hR.mono ?_
      rintro e W3 (⟨rfl, hJ3, _⟩ | ⟨rfl, hJx3⟩)
      · gi_wp2
        go_end0
        exact ⟨⟨_, rfl⟩, .inl ⟨_, Hfin.out, hJ3⟩⟩
      · gi_wp2
        go_end0
        exact ⟨⟨_, rfl⟩, .inr ⟨_, by rw [Hfin.out]; exact List.prefix_refl _, hJx3⟩⟩
    · obtain ⟨q, s2, hq, hpos, hcut, _⟩ := cut_some c _ hp
      have hsl : ∀ j, (r.extract 0 j).size ≤ 1048576 := fun j => by rw [ByteArray.size_extract]; omega
      have hix := index_ok r c
      rw [hpos] at hix
      have hql : q.length < r.size := by
        have : r.data.toList.length = r.size := by simp
        rw [← this, hq]; simp
      have HS2 : Hid (SqSt c t.data.toList (r.extract (q.length + 1) r.size) (pre ++ [(⟨r.extract 0 q.length, hsl q.length⟩ : Ln)])) := by
        refine ⟨?_⟩
        rw [ext_suf r hq, ← HS.out.eq, hcut]
        rw [List.map_append, List.append_assoc]
        congr 1
        show toL _ :: _ = _
        rw [show toL (⟨r.extract 0 q.length, hsl q.length⟩ : Ln) = q from ext_pre r hq]
        rfl
      obtain ⟨m, hm⟩ : ∃ m, q.length = m := ⟨_, rfl⟩
      rw [hm] at hix HS2 hql
      have hm0 : (0 : Int) ≤ (m : Int) := by omega
      have hm1 : (m : Int) < (r.size : Int) := by omega
      have Hpre : Hid ((pre ++ [(⟨r.extract 0 m, hsl m⟩ : Ln)]).map toL <+: cutF c t.data.toList) := ⟨_, HS2.out.eq⟩
      have hlen : pre.length < (cutF c t.data.toList).length := by
        have := congrArg List.length HS2.out.eq
        rw [List.length_append, List.length_map, List.length_append] at this
        simp at this
        omega
      clear hp hpos hcut hq
      obtain ⟨fn, tmps, assign, body, hy, hR⟩ := hY pre ⟨r.extract 0 m, hsl m⟩ wr hJs hlen
      dsimp only at hy
      gi_wp2_with (refine ⟨trivial, ?_⟩; gi_at_call 61; refine (callsIn_wide.2 (hix _)).mono ?_; rintro e w' ⟨rfl, hw'⟩; subst w')
      refine hR.mono ?_
      rintro e W3 (⟨rfl, hJ3, hk3⟩ | ⟨rfl, hJx3⟩)
      · have d0 : Boxed W3 B 9 (.string r) := (hk3 B (by simp)).trans b0
        have d1 : Boxed W3 (B + 1) 9 (.string ⟨#[c]⟩) := (hk3 (B + 1) (by simp)).trans b1
        have d2 : Boxed W3 (B + 1 + 1) 3 (.int .i64 0) := (hk3 (B + 1 + 1) (by simp)).trans b2
        have e0 := d0.cell
        have e1 := d1.cell
        have g0 := d0.frozen
        gi_wp2
        go_roundw
        case rel => exact ⟨_, _, by rw [ByteArray.size_extract]; omega, HS2.out, hJ _ _ _ hJ3, d0.set _, d1.other (by omega) _, d2.other (by omega) _⟩
        case measure =>
          rw [boxLen_eq b0, boxLen_eq (d0.set _), ByteArray.size_extract]
          omega
      · gi_wp2
        refine bodyPost_ret (results_none rfl _ _ _) rfl ?_
        exact ⟨⟨_, rfl⟩, .inr ⟨_, Hpre.out, hJx3⟩⟩

theorem splitSeq_runs (n B : Nat) (t : ByteArray) (c : UInt8) (hm : t.size ≤ 1048576) (hn : 1 ≤ n) (w : World) (hB : Boxed w B 9 (.string t)) (hB1 : Boxed w (B + 1) 9 (.string ⟨#[c]⟩)) (hB2 : Boxed w (B + 1 + 1) 3 (.int .i64 0)) :
    SeqB n Tryd.prog 59 #[.pointer (some ⟨B + 1, 0, none⟩), .pointer (some ⟨B, 0, none⟩), .pointer (some ⟨B + 1 + 1, 0, none⟩)] (fun x : Ln => #[.string x.1]) B [B, B + 1, B + 1 + 1] (fun ys => ys.map toL = cutF c t.data.toList) (fun pre => pre.map toL <+: cutF c t.data.toList) (cutF c t.data.toList).length w :=
  fun l J Jx W hW hJ hY h0 => splitSeq1_in n l B t c hm hn J Jx W hJ hY ((hW B (by simp)).trans hB) ((hW (B + 1) (by simp)).trans hB1) ((hW (B + 1 + 1) (by simp)).trans hB2) h0
end Go.Proofs.YtipndbhedaknnaaDoor
