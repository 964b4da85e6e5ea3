import Derived.Test.YthgaeaihfbiolaaDoorGen
import Derived.RangeFuncNested
import Derived.RangeFuncBound
import Derived.RangeFuncCalls
import Derived.RangeFuncLeaves
import Derived.Shelf.Abstract
import Derived.Shelf.RegionOpen
import Derived.WalkKit
import Derived.OwnWalkIn
import Derived.TacticsInMore
import Derived.LoopNIn
import Derived.LoopIn
import Derived.Test.YthgaeaihfbiolaaDoorPosA
namespace Go.Proofs.YthgaeaihfbiolaaDoor
open Go.RowKit

/- A LOOP OVER AN ITERATOR THAT IS A METHOD OF A VALUE (bound: fb). -/
/-- All lies as it lay but what is no cells, from H on. -/
structure TurnR (H : Nat) (A B : World) : Prop where
  os : B.os = A.os
  tape : B.tape = A.tape
  output : B.output = A.output
  size : A.heap.size ≤ B.heap.size
  same : ∀ k o, A.heap[k]? = some o → (k < H ∨ o.isCells = true) → B.heap[k]? = some o
theorem TurnR.put {H l : Nat} {A : World} {o : Obj} (hH : H ≤ l) (hl : A.heap[l]? = some o) (ho : o.isCells = false) (o' : Obj) : TurnR H A (A.putObj l o') :=
  ⟨rfl, rfl, rfl, by simp, fun k o2 hk h => by
    refine (World.putObj_heap_other ?_).trans hk
    rintro rfl
    rw [hl] at hk
    cases hk
    rcases h with h | h
    · omega
    · rw [ho] at h; cases h⟩
theorem TurnR.below {H n₀ : Nat} {w A B : World} (t : TurnR H A B) (h : Below n₀ w A) (hH : n₀ ≤ H) (hn : n₀ ≤ w.heap.size) : Below n₀ w B :=
  ⟨t.os.trans h.os, t.tape.trans h.tape, t.output.trans h.output, Nat.le_trans h.size t.size, fun k hk => by
    have e := h.block k hk
    rw [← e]
    have hlt : k < A.heap.size := by have := h.size; omega
    rw [Array.getElem?_eq_getElem hlt]
    exact t.same k _ (Array.getElem?_eq_getElem hlt) (.inl (by omega))⟩

/-- What such an iterator does: the values of a list that S allows, one after another; or, where a round says 'no more', those of Sp. -/
def SeqR {α : Type} (n : Nat) (P : Program) (g : Nat) (fb lb : Array Value) (encs : α → Array Value) (T : List Nat) (S Sp : List α → Prop) (N : Nat) (w : World) : Prop :=
  ∀ (l : Nat) (J Jx : List α → World → Prop) (W : World), (∀ k ∈ T, W.heap[k]? = w.heap[k]?) →
    (∀ pre x W1, J pre W1 → pre.length < N → YieldAt Fence.wide (n - 1) P l (encs x) W1 fun e W' =>
      (e = .returned (.bool true) ∧ J (pre ++ [x]) W' ∧ ∀ k ∈ T, W'.heap[k]? = W1.heap[k]?) ∨ (e = .returned (.bool false) ∧ Jx (pre ++ [x]) W')) →
    J [] W →
    CallsIn Fence.wide n P g (fb ++ #[.func (.yield l) #[] #[]] ++ lb) W fun e W' => (∃ v, e = .returned v) ∧ ((∃ xs, S xs ∧ J xs W') ∨ (∃ pre, Sp pre ∧ Jx pre W'))

theorem wpIn_rangeR {α : Type} {n : Nat} {P : Program} {g : Operand} {ps : Array Tmp} {assign body : Code} {Q : Exit → Act → World → Prop} {a : Act} {w : World} (h1 : 1 ≤ n)
    {gf : Nat} {fb lb : Array Value} (hg : a.eval g = .func (.func gf) fb lb) (eg : ∀ args w, (callFunc gf args).run P w = .ok (.enter gf args) w)
    {encs : α → Array Value} {T : List Nat} {S Sp : List α → Prop} {N : Nat} (hT : ∀ k ∈ T, k < w.heap.size) (hseq : SeqR (n - 1) P gf fb lb encs T S Sp N w) (hps : ∀ x, (encs x).size = ps.size)
    (I : List α → World → Prop) (Ix : Code → List α → World → Prop) (hI : ∀ s A B, I s A → TurnR w.heap.size A B → I s B) (hIx : ∀ c s A B, Ix c s A → TurnR w.heap.size A B → Ix c s B) (h0 : I [] w) (a₁ : α → Act)
    (hassign : ∀ (l : Nat) (x : α) (W : World) (K : Act → World → Prop), K (a₁ x) W →
      assign.wpIn (Fence.wide.inRound l) (n - 1 - 1) P (Exit.then K (fun _ _ _ => False)) { tmps := (ps.zip (encs x)).foldl (fun t (p, v) => t.setIfInBounds p v) a.tmps, defers := [] } W)
    (hbody : ∀ (l : Nat) (pre : List α) (x : α) (W : World), w.heap.size ≤ l → I pre W → pre.length < N → body.wpIn (Fence.wide.inRound l) (n - 1 - 1) P (ownPostG w.heap.size (fun A B => ∀ k ∈ T, B.heap[k]? = A.heap[k]?) I Ix (pre ++ [x]) W) (a₁ x) W)
    (hdone : ∀ (D : Nat) (xs : List α) (W : World), w.heap.size ≤ D → S xs → I xs W → W.heap[D]? = some (.deferred (some [])) → Q .normal { a with defers := { target := .collected D, args := #[] } :: a.defers } W)
    (hstop : ∀ (D : Nat) (c : Code) (pre : List α) (W : World), w.heap.size ≤ D → Sp pre → Ix c pre W → W.heap[D]? = some (.deferred (some [])) → c.wpIn Fence.wide n P Q { a with defers := { target := .collected D, args := #[] } :: a.defers } W) :
    (Code.rangeFunc g ps assign body).wpIn Fence.wide n P Q a w := by
  refine wpIn_rangeFunc fun fn hfn => ?_
  let rc : LoopState → Option Code → Loop := fun st pe => { state := st, pending := pe, fn, tmps := a.tmps, params := ps, assign, body, defers := w.heap.size }
  obtain ⟨W1, hW1⟩ : ∃ W1, (w.alloc (.deferred (some []))).alloc (.loop (rc .ready none)) = W1 := ⟨_, rfl⟩
  have t1 : TurnR w.heap.size w W1 := by
    rw [← hW1]
    refine ⟨rfl, rfl, rfl, by simp; omega, fun k o hk _ => ?_⟩
    have hlt := (Array.getElem?_eq_some_iff.1 hk).1
    rw [Below.heap_alloc _ _ k (by simp; omega), Below.heap_alloc _ _ k hlt, hk]
  have rec1 : W1.heap[w.heap.size + 1]? = some (.loop (rc .ready none)) := by
    rw [← hW1]
    have := World.alloc_heap_new (w.alloc (.deferred (some []))) (.loop (rc .ready none))
    rwa [World.size_alloc] at this
  have def1 : W1.heap[w.heap.size]? = some (.deferred (some [])) := by rw [← hW1, Below.heap_alloc _ _ _ (by simp), World.alloc_heap_new]
  refine ⟨w.heap.size + 1, [{ target := .collected w.heap.size, args := #[] }], W1, { target := .fn (.func gf) lb, args := fb ++ #[.func (.yield (w.heap.size + 1)) #[] #[]] }, W1, gf,
    fb ++ #[.func (.yield (w.heap.size + 1)) #[] #[]] ++ lb, W1, ?_, ?_, fun _ _ => trivial, ?_, fun _ => h1, ?_⟩
  · rw [← hW1]; exact run_enterLoop_outer _ _ _ _ _
  · simp only [resolve, hg]; simp [go_sem]
  · simp [invoke, go_sem, eg]
  refine (hseq (w.heap.size + 1)
    (fun pre W => I pre W ∧ W.heap[w.heap.size + 1]? = some (.loop (rc .ready none)) ∧ W.heap[w.heap.size]? = some (.deferred (some [])))
    (fun pre W => ∃ c, Ix c pre W ∧ W.heap[w.heap.size + 1]? = some (.loop (rc .done (some c))) ∧ W.heap[w.heap.size]? = some (.deferred (some [])))
    W1 ?_ ?_ ⟨hI _ _ _ h0 t1, rec1, def1⟩).mono ?_
  · intro k hk
    have := hT k hk
    rw [← hW1, Below.heap_alloc _ _ k (by simp; omega), Below.heap_alloc _ _ k this]
  · rintro pre x W ⟨hi, hl, hk⟩ hlen
    have hlt := (Array.getElem?_eq_some_iff.1 hl).1
    refine ⟨fn, _, assign, body, run_yield (P := P) (args := encs x) hl (hps x), roundIn_of_wpIn hfn (hassign _ x W _ ⟨_, run_beginRound hl rfl, ?_⟩)⟩
    have busy : (W.putObj (w.heap.size + 1) (.loop (rc .busy none))).heap[w.heap.size + 1]? = some (.loop (rc .busy none)) := World.putObj_heap_same hlt
    have held : (W.putObj (w.heap.size + 1) (.loop (rc .busy none))).heap[w.heap.size]? = some (.deferred (some [])) := (World.putObj_heap_other (by omega)).trans hk
    refine wpIn_mono (hbody _ pre x _ (by omega) (hI _ _ _ hi (TurnR.put (by omega) hl rfl _)) hlen) ?_
    have fin : ∀ (jump : Option Code) (W3 : World), KeepsFrom w.heap.size (W.putObj (w.heap.size + 1) (.loop (rc .busy none))) W3 →
        (Instr.endRound (w.heap.size + 1) jump).run P W3 = .ok (.bool jump.isNone) (W3.putObj (w.heap.size + 1) (.loop (rc (if jump.isNone then .ready else .done) jump))) ∧
        W3.heap[w.heap.size + 1]? = some (.loop (rc .busy none)) ∧
        (W3.putObj (w.heap.size + 1) (.loop (rc (if jump.isNone then .ready else .done) jump))).heap[w.heap.size + 1]? = some (.loop (rc (if jump.isNone then .ready else .done) jump)) ∧
        (W3.putObj (w.heap.size + 1) (.loop (rc (if jump.isNone then .ready else .done) jump))).heap[w.heap.size]? = some (.deferred (some [])) := fun jump W3 k3 => by
      have l3 := k3.same _ _ (by omega) busy rfl
      exact ⟨run_endRound (P := P) jump l3, l3, World.putObj_heap_same (Array.getElem?_eq_some_iff.1 l3).1, (World.putObj_heap_other (by omega)).trans (k3.same _ _ (Nat.le_refl _) held rfl)⟩
    have bk : ∀ (A : World) (o : Obj) (k : Nat), k ∈ T → (A.putObj (w.heap.size + 1) o).heap[k]? = A.heap[k]? := fun A o k hk => World.putObj_heap_other (by have := hT k hk; omega)
    rintro e a3 W3 hp
    cases e with
    | normal =>
      obtain ⟨k3, b3, i3⟩ := hp
      obtain ⟨r, l3, l4, d4⟩ := fin none W3 k3
      exact ⟨_, _, r, .inl ⟨rfl, ⟨hI _ _ _ i3 (TurnR.put (by omega) l3 rfl _), l4, d4⟩, fun k hk => by rw [bk _ _ k hk, b3 k hk, bk _ _ k hk]⟩⟩
    | ret =>
      obtain ⟨k3, i3⟩ := hp
      obtain ⟨r, l3, l4, d4⟩ := fin (some .ret) W3 k3
      exact ⟨_, _, r, .inr ⟨rfl, .ret, hIx _ _ _ _ i3 (TurnR.put (by omega) l3 rfl _), l4, d4⟩⟩
    | exit id =>
      obtain ⟨k3, i3⟩ := hp
      obtain ⟨r, l3, l4, d4⟩ := fin (some (.exit id)) W3 k3
      exact ⟨_, _, r, .inr ⟨rfl, .exit id, hIx _ _ _ _ i3 (TurnR.put (by omega) l3 rfl _), l4, d4⟩⟩
    | goto t =>
      obtain ⟨k3, i3⟩ := hp
      obtain ⟨r, l3, l4, d4⟩ := fin (some (.goto t)) W3 k3
      exact ⟨_, _, r, .inr ⟨rfl, .goto t, hIx _ _ _ _ i3 (TurnR.put (by omega) l3 rfl _), l4, d4⟩⟩
    | panic ch => exact hp.elim
    | outgrown => exact hp.elim
  · rintro e W2 ⟨⟨v, rfl⟩, (⟨xs, hS, hi, hl, hk⟩ | ⟨pre, hSp, c, hi, hl, hk⟩)⟩
    · exact ⟨none, _, run_endLoop (P := P) hl (by simp [rc]), hdone _ xs _ (Nat.le_refl _) hS (hI _ _ _ hi (TurnR.put (by omega) hl rfl _)) ((World.putObj_heap_other (by omega)).trans hk)⟩
    · exact ⟨some c, _, run_endLoop (P := P) hl (by simp [rc]), hstop _ c pre _ (Nat.le_refl _) hSp (hIx _ _ _ _ hi (TurnR.put (by omega) hl rfl _)) ((World.putObj_heap_other (by omega)).trans hk)⟩
end Go.Proofs.YthgaeaihfbiolaaDoor
namespace Go.Proofs.YthgaeaihfbiolaaDoor
open Go.RowKit
attribute [local go_sem] Oper.semAt_some

/- THE MEMBERS OF A SET, one after another. -/
structure MemO (T : Nat → Nat) (k : Nat) (pre : List Nat) : Prop where
  mem : ∀ p, p ∈ pre ↔ p < 64 * k ∧ bitAt T p = true
  len : pre.length ≤ 64 * k
structure MemI (T : Nat → Nat) (k x lo : Nat) (pre : List Nat) : Prop where
  mem : ∀ p, p ∈ pre ↔ (p < 64 * k ∧ bitAt T p = true) ∨ (p / 64 = k ∧ bitAt T p = true ∧ x.testBit (p % 64) = false)
  sub : ∀ i, x.testBit i = true → (T k).testBit i = true
  len : pre.length ≤ 64 * k + lo
  low : ∀ i, i < lo → x.testBit i = false
  le : lo ≤ 64
theorem MemO.open_ {T : Nat → Nat} {k : Nat} {pre : List Nat} (h : MemO T k pre) : MemI T k (T k) 0 pre := by
  refine ⟨fun p => (h.mem p).trans ⟨.inl, ?_⟩, fun _ h => h, h.len, fun i hi => absurd hi (Nat.not_lt_zero _), by omega⟩
  rintro (h1 | ⟨h1, h2, h3⟩)
  · exact h1
  · unfold bitAt at h2; rw [h1, h3] at h2; cases h2
theorem MemI.close {T : Nat → Nat} {k lo : Nat} {pre : List Nat} (h : MemI T k 0 lo pre) : MemO T (k + 1) pre := by
  refine ⟨fun p => (h.mem p).trans ⟨?_, ?_⟩, by have := h.len; have := h.le; omega⟩
  · rintro (⟨h1, h2⟩ | ⟨h1, h2, _⟩)
    · exact ⟨by omega, h2⟩
    · exact ⟨by omega, h2⟩
  · rintro ⟨h1, h2⟩
    by_cases e : p < 64 * k
    · exact .inl ⟨e, h2⟩
    · exact .inr ⟨by omega, h2, by simp⟩
/-- The lowest bit taken away. -/
theorem and_pred_bit {x j t : Nat} (hx : x = 2 ^ j * (2 * t + 1)) (i : Nat) : (x &&& (x - 1)).testBit i = (x.testBit i && decide (i ≠ j)) := by
  have hp : 0 < 2 ^ j := Nat.two_pow_pos j
  have e1 : x - 1 = 2 ^ j * (2 * t) + (2 ^ j - 1) := by rw [hx, Nat.mul_add, Nat.mul_one]; omega
  rw [Nat.testBit_and]
  rcases Nat.lt_trichotomy i j with h | h | h
  · have := (low_of j t).low i h
    rw [← hx] at this
    rw [this]; simp
  · subst h
    have : (x - 1).testBit i = false := by
      rw [e1, Nat.testBit_two_pow_mul_add _ (by omega), if_neg (by omega), Nat.sub_self]
      simp
    rw [this]; simp
  · have : (x - 1).testBit i = x.testBit i := by
      rw [e1, Nat.testBit_two_pow_mul_add _ (by omega), if_neg (by omega), hx, Nat.testBit_two_pow_mul]
      have e3 : decide (i ≥ j) = true := by simp; omega
      rw [e3, Bool.true_and]
      obtain ⟨d, hd⟩ : ∃ d, i - j = d + 1 := ⟨i - j - 1, by omega⟩
      rw [hd, Nat.testBit_succ, Nat.testBit_succ]
      congr 1
      omega
    rw [this]
    have e2 : decide (i ≠ j) = true := by simp; omega
    rw [e2, Bool.and_true, Bool.and_self]
theorem MemI.step {T : Nat → Nat} {k x lo j t : Nat} {pre : List Nat} (h : MemI T k x lo pre) (hx : x = 2 ^ j * (2 * t + 1)) (hj : j < 64) : MemI T k (x &&& (x - 1)) (j + 1) (pre ++ [k * 64 + j]) ∧ lo ≤ j := by
  have hb : x.testBit j = true := by rw [hx]; exact (low_of j t).bit
  have hlo : lo ≤ j := by
    rcases Nat.lt_or_ge j lo with h1 | h1
    · rw [h.low j h1] at hb; cases hb
    · exact h1
  refine ⟨⟨fun p => ?_, fun i hi => ?_, by have := h.len; simp; omega, fun i hi => ?_, by omega⟩, hlo⟩
  · rw [List.mem_append, h.mem p, and_pred_bit hx, List.mem_singleton]
    constructor
    · rintro ((h1 | ⟨h1, h2, h3⟩) | rfl)
      · exact .inl h1
      · exact .inr ⟨h1, h2, by rw [h3]; rfl⟩
      · refine .inr ⟨by omega, ?_, ?_⟩
        · unfold bitAt
          rw [show (k * 64 + j) / 64 = k by omega, show (k * 64 + j) % 64 = j by omega]
          exact h.sub j hb
        · rw [show (k * 64 + j) % 64 = j by omega]; simp
    · rintro (h1 | ⟨h1, h2, h3⟩)
      · exact .inl (.inl h1)
      · by_cases e : p % 64 = j
        · exact .inr (by omega)
        · refine .inl (.inr ⟨h1, h2, ?_⟩)
          have e2 : decide (p % 64 ≠ j) = true := by simp; exact e
          rw [e2, Bool.and_true] at h3
          exact h3
  · rw [and_pred_bit hx, Bool.and_eq_true] at hi
    exact h.sub i hi.1
  · rw [and_pred_bit hx]
    by_cases e : i = j
    · subst e; simp
    · have : x.testBit i = false := by rw [hx]; exact (low_of j t).low i (by omega)
      rw [this]; rfl
/-- A member of a set. -/
abbrev Mem (nw : Nat) (T : Nat → Nat) := { p : Nat // p < 64 * nw ∧ bitAt T p = true }
def mvals {nw : Nat} {T : Nat → Nat} (pre : List (Mem nw T)) : List Nat := pre.map Subtype.val
theorem mvals_snoc {nw : Nat} {T : Nat → Nat} (pre : List (Mem nw T)) (x : Mem nw T) : mvals (pre ++ [x]) = mvals pre ++ [x.1] := by simp [mvals]
theorem Bruijn.keep {w w' : World} (h : Bruijn w) (hk : w'.heap[0]? = w.heap[0]?) : Bruijn w' := fun i hi => (show w'.cell? ⟨0, i, none⟩ = w.cell? ⟨0, i, none⟩ from World.cell?_of_block hk).trans (h i hi)

set_option maxRecDepth 100000 in
set_option maxHeartbeats 4000000 in
theorem members_in (n l nw g cap : Nat) (T : Nat → Nat) (hn : 1 ≤ n) (hnw : nw ≤ 1000) (J Jx : List (Mem nw T) → World → Prop) (W : World)
    (hY : ∀ pre x W1, J pre W1 → pre.length < 64 * nw → YieldAt Fence.wide (n - 1) Tryd.prog l #[.int .i64 (x.1 : Nat)] W1 fun e W' =>
      (e = .returned (.bool true) ∧ J (pre ++ [x]) W' ∧ ∀ k ∈ [0, g], W'.heap[k]? = W1.heap[k]?) ∨ (e = .returned (.bool false) ∧ Jx (pre ++ [x]) W'))
    (hT : PosAt W nw g T) (hB : Bruijn W) (h0 : J [] W) :
    CallsIn Fence.wide n Tryd.prog 57 #[.slice (some ⟨g, 0, none⟩) nw cap, .func (.yield l) #[] #[]] W fun e W' => (∃ v, e = .returned v) ∧
      ((∃ ys, (∀ p, p ∈ mvals ys ↔ p < 64 * nw ∧ bitAt T p = true) ∧ J ys W') ∨ (∃ pre, True ∧ Jx pre W')) := by
  refine callsIn_of_wp Tryd.func57 rfl trivial ?_ rfl
  simp only [Tryd.ntmps57, List.size_toArray, List.length_cons, List.length_nil, Nat.reduceAdd, Nat.reduceSub, Array.replicate_succ, Array.replicate_zero, List.push_toArray, List.append_toArray, List.nil_append, List.cons_append]
  have HB : Hid (Bruijn W) := hB
  clear hB
  gi_wp2
  gi_loopw [8] (fun i wr => ∃ (k : Nat) (pre : List (Mem nw T)), k ≤ nw ∧ i = .int .i64 k ∧ Hid (MemO T k (mvals pre)) ∧ J pre wr ∧ PosAt wr nw g T ∧ Hid (Bruijn wr))
    (fun i _ => nw - (intOf i).toNat)
  case atStart => exact ⟨0, [], Nat.zero_le _, rfl, ⟨fun p => by simp [mvals], by simp [mvals]⟩, h0, hT, HB⟩
  case round =>
    obtain ⟨k, pre, hk, rfl, HM, hJs, hTs, HBs⟩ := hrel
    by_cases hlt : k < nw
    case neg =>
      have hkk : k = nw := by omega
      subst hkk
      gi_wp2
      go_end0
      exact ⟨⟨_, rfl⟩, .inl ⟨pre, HM.out.mem, hJs⟩⟩
    have c0 := hTs.cell hlt
    have hi0 : (0 : Int) ≤ (k : Int) := by omega
    have hi1 : (k : Int) < (nw : Int) := by omega
    gi_wp2
    gi_loopw [5] (fun v wr => ∃ (x lo : Nat) (pre : List (Mem nw T)), v = .int .u64 x ∧ x < 18446744073709551616 ∧ Hid (MemI T k x lo (mvals pre)) ∧ J pre wr ∧ PosAt wr nw g T ∧ Hid (Bruijn wr))
      (fun v _ => (intOf v).toNat)
    case atStart => exact ⟨T k, 0, pre, rfl, hTs.lt k, HM.out.open_, hJs, hTs, HBs⟩
    case round =>
      clear HM hJs HBs c0
      obtain ⟨x, lo, pre, rfl, hx, HM, hJs, hTs, HBs⟩ := hrel
      by_cases h0x : x = 0
      · subst h0x
        gi_wp2
        go_roundw
        case rel => exact ⟨k + 1, pre, by omega, by go_num, HM.out.close, hJs, hTs, HBs⟩
        case measure => simp [intOf]; omega
      · obtain ⟨j, t, hjt⟩ := odd_part x x (Nat.le_refl _) (by omega)
        have hj : j < 64 := by
          rcases Nat.lt_or_ge j 64 with h | h
          · exact h
          · have h1 : 2 ^ 64 ≤ 2 ^ j := Nat.pow_le_pow_right (by omega) h
            have h2 : 2 ^ j * 1 ≤ 2 ^ j * (2 * t + 1) := Nat.mul_le_mul_left _ (by omega)
            rw [← hjt, Nat.mul_one] at h2
            have : (2 : Nat) ^ 64 = 18446744073709551616 := by decide
            omega
        have hst := HM.out.step hjt hj
        have hmem : k * 64 + j < 64 * nw ∧ bitAt T (k * 64 + j) = true := by
          refine ⟨by omega, ?_⟩
          unfold bitAt
          rw [show (k * 64 + j) / 64 = k by omega, show (k * 64 + j) % 64 = j by omega]
          exact HM.out.sub j (by rw [hjt]; exact (low_of j t).bit)
        have HM2 : Hid (MemI T k (x &&& (x - 1)) (j + 1) (mvals (pre ++ [(⟨k * 64 + j, hmem⟩ : Mem nw T)]))) := by rw [mvals_snoc]; exact hst.1
        have hlen : pre.length < 64 * nw := by have h6 := hst.2; have h5 := HM.out.len; simp only [mvals, List.length_map] at h5; omega
        have Hjt : Hid _ := hjt
        have hxp : 0 < x := by omega
        have hne : ((x : Int) != 0) = true := by simp; omega
        have hsub : IntKind.u64.wrap ((x : Int) - 1) = ((x - 1 : Nat) : Int) := by
          rw [show (x : Int) - 1 = ((x - 1 : Nat) : Int) by omega, wrap_u64, Nat.mod_eq_of_lt (by omega)]
        have hand := and_u64 x (x - 1) hx (by omega)
        have hle : x &&& (x - 1) ≤ x - 1 := Nat.and_le_right
        have htz := fun (w : World) (h : Hid (Bruijn w)) => tz_ok x j t w Hjt hx hxp hj h
        have hwr : IntKind.i64.wrap ((k : Int) * 64) = ((k * 64 : Nat) : Int) := by rw [IntKind.wrap_i64]; omega
        obtain ⟨fn, tmps, assign, body, hy, hR⟩ := hY pre ⟨k * 64 + j, hmem⟩ wr hJs hlen
        dsimp only at hy
        rw [show ((k * 64 + j : Nat) : Int) = (k : Int) * 64 + (j : Int) by omega] at hy
        clear hjt hst hY
        gi_wp2_with (refine ⟨trivial, ?_⟩; gi_at_call 67; refine (callsIn_wide.2 (htz _ HBs)).mono ?_; rintro e w' ⟨rfl, hw'⟩; subst w')
        refine hR.mono ?_
        rintro e W3 (⟨rfl, hJ3, hk3⟩ | ⟨rfl, hJx3⟩)
        · have hT3 : PosAt W3 nw g T := ⟨(hk3 g (by simp)).trans hTs.row, hTs.lt⟩
          have HB3 : Hid (Bruijn W3) := HBs.out.keep (hk3 0 (by simp))
          gi_wp2
          go_roundw
          case rel => exact ⟨x &&& (x - 1), j + 1, _, by rw [← hand], by omega, HM2.out, hJ3, hT3, HB3⟩
          case measure => simp [intOf]; omega
        · gi_wp2
          refine bodyPost_ret (results_none rfl _ _ _) rfl ?_
          exact ⟨⟨_, rfl⟩, .inr ⟨_, trivial, hJx3⟩⟩

theorem members_runs (n nw g cap : Nat) (T : Nat → Nat) (hn : 1 ≤ n) (hnw : nw ≤ 1000) (w : World) (hT : PosAt w nw g T) (hB : Bruijn w) :
    SeqR n Tryd.prog 57 #[.slice (some ⟨g, 0, none⟩) nw cap] #[] (fun x : Mem nw T => #[.int .i64 (x.1 : Int)]) [0, g] (fun ys => ∀ p, p ∈ mvals ys ↔ p < 64 * nw ∧ bitAt T p = true) (fun _ => True) (64 * nw) w :=
  fun l J Jx W hW hY h0 => members_in n l nw g cap T hn hnw J Jx W hY ⟨(hW g (by simp)).trans hT.row, hT.lt⟩ (hB.keep (hW 0 (by simp))) h0
end Go.Proofs.YthgaeaihfbiolaaDoor
