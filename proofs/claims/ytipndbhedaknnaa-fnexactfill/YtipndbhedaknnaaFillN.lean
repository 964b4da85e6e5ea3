import Derived.Test.YtipndbhedaknnaaFillM
namespace Go.Proofs.Ytipndbhedaknnaa
open Go.RowKit Go.Shelf

def marksL : List UInt8 → List Mk
  | [] => []
  | [c] => [.ch c (c.toNat == 92)]
  | c :: d :: rest =>
    if c.toNat = 92 ∧ d.toNat = 92 then .ch c false :: marksL rest
    else if h : c.toNat = 92 ∧ 48 ≤ d.toNat ∧ d.toNat ≤ 57 then .gr ⟨d.toNat - 48, by omega⟩ :: marksL rest
    else .ch c (c.toNat == 92) :: marksL (d :: rest)
theorem marks_step (l : List UInt8) (h : l ≠ []) : marksL l = (markF l).1 :: marksL (l.drop (markF l).2) ∧ 1 ≤ (markF l).2 ∧ (markF l).2 ≤ l.length := by
  rcases l with _ | ⟨c, _ | ⟨d, r⟩⟩
  · exact absurd rfl h
  · simp [marksL, markF]
  · by_cases h1 : c.toNat = 92 ∧ d.toNat = 92
    · rw [marksL, markF, if_pos h1, if_pos h1]; simp
    · by_cases h2 : c.toNat = 92 ∧ 48 ≤ d.toNat ∧ d.toNat ≤ 57
      · rw [marksL, markF, if_neg h1, if_neg h1, dif_pos h2, dif_pos h2]; simp
      · rw [marksL, markF, if_neg h1, if_neg h1, dif_neg h2, dif_neg h2]; simp
/-- What a mark stands for. -/
def outB (tx : ByteArray) (sp : List (Int × Int)) : Mk → ByteArray
  | .ch c _ => ⟨#[c]⟩
  | .gr g => grpB tx sp g.val
def outs (tx : ByteArray) (sp : List (Int × Int)) (ms : List Mk) : List UInt8 := ms.flatMap fun m => (outB tx sp m).data.toList
theorem grp_span (tx : ByteArray) (sp : List (Int × Int)) (g : Nat) : (grpB tx sp g).data.toList = spanL tx.data.toList sp g := by
  unfold grpB spanL
  rw [show tx.data.toList.length = tx.size by simp]
  split
  · rw [ext_list]
  · rfl
theorem fill_marks (tx : ByteArray) (sp : List (Int × Int)) : ∀ l, fillL tx.data.toList sp l = outs tx sp (marksL l)
  | [] => rfl
  | [c] => by simp [fillL, marksL, outs, outB]
  | c :: d :: rest => by
    rw [fillL, marksL]
    by_cases h1 : c.toNat = 92 ∧ d.toNat = 92
    · rw [if_pos h1, if_pos h1, fill_marks tx sp rest]
      simp [outs, outB]
    · by_cases h2 : c.toNat = 92 ∧ 48 ≤ d.toNat ∧ d.toNat ≤ 57
      · rw [if_neg h1, if_neg h1, if_pos h2, dif_pos h2, fill_marks tx sp rest]
        simp [outs, outB, grp_span]
      · rw [if_neg h1, if_neg h1, if_neg h2, dif_neg h2, fill_marks tx sp (d :: rest)]
        simp [outs, outB]
theorem outs_snoc (tx : ByteArray) (sp : List (Int × Int)) (pre : List Mk) (x : Mk) : outs tx sp (pre ++ [x]) = outs tx sp pre ++ (outB tx sp x).data.toList := by simp [outs]

/-- A block lies as it lay. -/
def Lies (b : Nat) (W W' : World) : Prop := ∀ o, W.heap[b]? = some o → W'.heap[b]? = some o

attribute [local go_sem] Oper.semAt_some
set_option maxRecDepth 100000 in
set_option maxHeartbeats 1000000 in
theorem templateMarks_in (n : Nat) (tm : ByteArray) (w : World) :
    CallsIn Fence.wide n Try.prog 12 #[.string tm] w fun e w' => e = .returned (.func (.func 15) #[] #[.pointer (some ⟨w.heap.size, 0, none⟩)]) ∧ w' = w.alloc (.cells #[.string tm] 9) := by
  refine callsIn_of_wp Try.func12 rfl trivial ?_ rfl
  simp only [Try.ntmps12, List.size_toArray, List.length_cons, List.length_nil, Nat.reduceAdd, Nat.reduceSub, Array.replicate_succ, Array.replicate_zero, List.push_toArray, List.append_toArray, List.nil_append, List.cons_append]
  gi_wp2
  go_ret
  exact ⟨rfl, rfl⟩

set_option maxRecDepth 100000 in
set_option maxHeartbeats 1000000 in
theorem marks1_in (n l B : Nat) (tm : ByteArray) (hm : tm.size ≤ 1048576) (hn : 1 ≤ n) (J Jx : List Mk → World → Prop) (W : World) (hJ : AbidesFrom W.heap.size J)
    (hY : ∀ pre x W1, J pre W1 → pre.length < (marksL tm.data.toList).length → YieldAt Fence.wide (n - 1) Try.prog l #[.agg x.cells] W1 fun e W' =>
      (e = .returned (.bool true) ∧ J (pre ++ [x]) W' ∧ Lies B W1 W') ∨ (e = .returned (.bool false) ∧ Jx (pre ++ [x]) W'))
    (hB : Boxed W B 9 (.string tm)) (h0 : J [] W) :
    CallsIn Fence.wide n Try.prog 15 #[.func (.yield l) #[] #[], .pointer (some ⟨B, 0, none⟩)] W fun e W' => (∃ v, e = .returned v) ∧
      ((∃ ys, ys = marksL tm.data.toList ∧ J ys W') ∨ (∃ pre, pre <+: marksL tm.data.toList ∧ Jx pre W')) := by
  refine callsIn_of_wp Try.func15 rfl trivial ?_ rfl
  simp only [Try.ntmps15, List.size_toArray, List.length_cons, List.length_nil, Nat.reduceAdd, Nat.reduceSub, Array.replicate_succ, Array.replicate_zero, List.push_toArray, List.append_toArray, List.nil_append, List.cons_append]
  gi_wp2
  gi_loopw [3] (fun p wr => ∃ (k : Nat) (pre : List Mk), p = .int .i64 k ∧ k ≤ tm.size ∧ Hid (pre ++ marksL (tm.data.toList.drop k) = marksL tm.data.toList) ∧ J pre wr ∧ Boxed wr B 9 (.string tm))
    (fun p _ => tm.size - (intOf p).toNat)
  case atStart =>
    exact ⟨0, [], rfl, Nat.zero_le _, rfl, h0, hB⟩
  case round =>
    obtain ⟨k, pre, rfl, hk, Hp, hJs, hBs⟩ := hrel
    have hc := hBs.cell
    by_cases hlt : (k : Int) < (tm.size : Int)
    case neg =>
      gi_wp2
      go_end0
      have hq := Hp.out
      rw [List.drop_eq_nil_of_le (by simp; omega)] at hq
      have hq' : pre = marksL tm.data.toList := by simpa [marksL] using hq
      exact ⟨⟨_, rfl⟩, .inl (hq' ▸ hJs)⟩
    have hk0 : (0 : Int) ≤ (k : Int) := by omega
    have HS := marks_step (tm.data.toList.drop k) (by simp; omega)
    obtain ⟨x, m, hx⟩ : ∃ x m, markF (tm.data.toList.drop k) = (x, m) := ⟨_, _, rfl⟩
    rw [hx] at HS
    obtain ⟨HS1, hm1, hm2⟩ := HS
    dsimp only at HS1 hm1 hm2
    have hm2' : m ≤ tm.size - k := by simpa using hm2
    have Hp' : Hid ((pre ++ [x]) ++ marksL (tm.data.toList.drop (k + m)) = marksL tm.data.toList) := by
      show _ = _
      rw [← Hp.out, HS1, List.drop_drop]
      simp
    have Hl : Hid (pre.length < (marksL tm.data.toList).length) := by show _ < _; rw [← Hp.out, HS1]; simp
    have hrd := readMark_ok (tm.extract k tm.size)
    rw [ext_list, List.take_of_length_le (by simp), hx] at hrd
    dsimp only at hrd
    clear HS1 hm2
    have hsl : (tm.extract k tm.size).size = tm.size - k := by simp
    have hYw := fun o => hY pre x ((wr.alloc o).alloc (.cells x.cells 39)) (hJ pre _ _ none (hJ pre _ _ none hJs (World.grownBy_alloc wr o none) (fun r e => by cases e)) (World.grownBy_alloc (wr.alloc o) (.cells x.cells 39) none) (fun r e => by cases e)) Hl.out
    have Hq : Hid (pre ++ [x] <+: marksL tm.data.toList) := ⟨_, Hp'.out⟩
    clear hY hx Hl
    cases x
    all_goals
      dsimp only [Mk.cells] at hrd hYw
      gi_wp2_with (refine ⟨trivial, ?_⟩; gi_at_call 16; refine (callsIn_wide.2 (hrd _ (by omega) (by omega))).mono ?_; rintro e w' ⟨rfl, o, rfl⟩)
      obtain ⟨fn, tmps, assign, body, hy, hR⟩ := hYw o
      rw [hy]
      gi_wp2
      refine hR.mono ?_
      rintro e W3 (⟨rfl, hJ3, hk3⟩ | ⟨rfl, hJx3⟩)
      · have hB3 : Boxed W3 B 9 (.string tm) := hk3 _ ((hBs.alloc _).alloc _)
        gi_wp2
        go_roundw
        case rel => exact ⟨k + m, _, by go_num, by omega, Hp'.out, hJ3, hB3⟩
        case measure => simp [intOf]; omega
      · gi_wp2
        refine bodyPost_ret (results_none rfl _ _ _) rfl ?_
        exact ⟨⟨_, rfl⟩, .inr ⟨_, Hq.out, hJx3⟩⟩

theorem marks_stops (n B : Nat) (tm : ByteArray) (hm : tm.size ≤ 1048576) (hn : 1 ≤ n) (w : World) (hB : Boxed w B 9 (.string tm)) :
    SeqStopsK Fence.wide n Try.prog 15 #[.pointer (some ⟨B, 0, none⟩)] (fun x : Mk => #[Value.agg x.cells]) (Lies B) (fun ys => ys = marksL tm.data.toList) (fun pre => pre <+: marksL tm.data.toList) (marksL tm.data.toList).length w :=
  fun l J Jx W hW hJ _ hY h0 => marks1_in n l B tm hm hn J Jx W hJ hY ((hW.block B hB.lt).trans hB) h0
end Go.Proofs.Ytipndbhedaknnaa
