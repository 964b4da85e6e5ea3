import Derived.Test.YtgbdlgogccgciaaGen
import Derived.RangeFuncNested
import Derived.RangeFuncBound
import Derived.RangeFuncCalls
import Derived.RangeFuncLeaves
import Derived.Shelf.Abstract
import Derived.Shelf.RegionOpen
import Derived.WalkKit
import Derived.OwnWalkIn
import Derived.TacticsInMore
import Derived.LoopNIn
import Derived.LoopIn
namespace Go.Proofs.Ytgbdlgogccgciaa
open Go.RowKit

/- A LOOP OVER AN ITERATOR THAT WRITES A VARIABLE OF ITS OWN (block b). -/
/-- All but block b, and all that is no cells from H on, lies as it lay. -/
structure Turn (H b : Nat) (A B : World) : Prop where
  os : B.os = A.os
  tape : B.tape = A.tape
  output : B.output = A.output
  size : A.heap.size ≤ B.heap.size
  same : ∀ k o, k ≠ b → A.heap[k]? = some o → (k < H ∨ o.isCells = true) → B.heap[k]? = some o
theorem Turn.put {H b l : Nat} {A : World} {o : Obj} (hH : H ≤ l) (hl : A.heap[l]? = some o) (ho : o.isCells = false) (o' : Obj) : Turn H b A (A.putObj l o') :=
  ⟨rfl, rfl, rfl, by simp, fun k o2 _ hk h => by
    refine (World.putObj_heap_other ?_).trans hk
    rintro rfl
    rw [hl] at hk
    cases hk
    rcases h with h | h
    · omega
    · rw [ho] at h; cases h⟩
theorem Turn.alloc {H b : Nat} (A : World) (o : Obj) : Turn H b A (A.alloc o) :=
  ⟨rfl, rfl, rfl, by simp, fun k o2 _ hk _ => (Below.heap_alloc A o k (Array.getElem?_eq_some_iff.1 hk).1).trans hk⟩
theorem Turn.set {H b : Nat} (A : World) (v : Value) : Turn H b A (A.setCell ⟨b, 0, none⟩ v) :=
  ⟨rfl, rfl, rfl, (grownBy_setCell' A b v).size, fun k o2 hb hk _ => ((grownBy_setCell' A b v).block k (Array.getElem?_eq_some_iff.1 hk).1 (by simpa using hb)).trans hk⟩
theorem Turn.below {H b n₀ : Nat} {w A B : World} (t : Turn H b A B) (h : Below n₀ w A) (hb : n₀ ≤ b) (hH : n₀ ≤ H) (hn : n₀ ≤ w.heap.size) : Below n₀ w B :=
  ⟨t.os.trans h.os, t.tape.trans h.tape, t.output.trans h.output, Nat.le_trans h.size t.size, fun k hk => by
    have e := h.block k hk
    rw [← e]
    have hlt : k < A.heap.size := by have := h.size; omega
    rw [Array.getElem?_eq_getElem hlt]
    exact t.same k _ (by omega) (Array.getElem?_eq_getElem hlt) (.inl (by omega))⟩
theorem Turn.boxed {H b B0 : Nat} {t0 : TypeId} {v : Value} {A B : World} (t : Turn H b A B) (h : Boxed A B0 t0 v) (hb : B0 ≠ b) : Boxed B B0 t0 v := t.same B0 _ hb h (.inr rfl)
theorem Turn.row {H b base n : Nat} {e : TypeId} {sz : Nat} {v : Value} {xs : List Value} {A B : World} (t : Turn H b A B) (h : A.ownsRow base e sz v n xs) (hb : v.ownBlock ≠ some b) : B.ownsRow base e sz v n xs := by
  refine ⟨h.1, ?_⟩
  rcases h.2 with hn | ⟨g, cap, cur, rfl, h1, h2, h3⟩
  · exact .inl hn
  · exact .inr ⟨g, cap, cur, rfl, h1, t.same g _ (fun x => hb (by rw [x]; rfl)) h2 (.inr rfl), h3⟩

/-- What such an iterator does: the values of a list that S allows, one after another; or, where a round says 'no more', those of Sp. -/
def SeqB {α : Type} (n : Nat) (P : Program) (g : Nat) (lb : Array Value) (encs : α → Array Value) (b : Nat) (T : List Nat) (S Sp : List α → Prop) (N : Nat) (w : World) : Prop :=
  ∀ (l : Nat) (J Jx : List α → World → Prop) (W : World), (∀ k ∈ T, W.heap[k]? = w.heap[k]?) → (∀ s A v, J s A → J s (A.setCell ⟨b, 0, none⟩ v)) →
    (∀ pre x W1, J pre W1 → pre.length < N → YieldAt Fence.wide (n - 1) P l (encs x) W1 fun e W' =>
      (e = .returned (.bool true) ∧ J (pre ++ [x]) W' ∧ ∀ k ∈ T, W'.heap[k]? = W1.heap[k]?) ∨ (e = .returned (.bool false) ∧ Jx (pre ++ [x]) W')) →
    J [] W →
    CallsIn Fence.wide n P g (#[.func (.yield l) #[] #[]] ++ lb) W fun e W' => (∃ v, e = .returned v) ∧ ((∃ xs, S xs ∧ J xs W') ∨ (∃ pre, Sp pre ∧ Jx pre W'))

theorem wpIn_rangeB {α : Type} {n : Nat} {P : Program} {g : Operand} {ps : Array Tmp} {assign body : Code} {Q : Exit → Act → World → Prop} {a : Act} {w : World} (h1 : 1 ≤ n)
    {gf : Nat} {lb : Array Value} (hg : a.eval g = .func (.func gf) #[] lb) (eg : ∀ args w, (callFunc gf args).run P w = .ok (.enter gf args) w)
    {encs : α → Array Value} {b : Nat} {T : List Nat} {S Sp : List α → Prop} {N : Nat} (hb : b < w.heap.size) (hT : ∀ k ∈ T, k < w.heap.size) (hseq : SeqB (n - 1) P gf lb encs b T S Sp N w) (hps : ∀ x, (encs x).size = ps.size)
    (I : List α → World → Prop) (Ix : Code → List α → World → Prop) (hI : ∀ s A B, I s A → Turn w.heap.size b A B → I s B) (hIx : ∀ c s A B, Ix c s A → Turn w.heap.size b A B → Ix c s B) (h0 : I [] w) (a₁ : α → Act)
    (hassign : ∀ (l : Nat) (x : α) (W : World) (K : Act → World → Prop), K (a₁ x) W →
      assign.wpIn (Fence.wide.inRound l) (n - 1 - 1) P (Exit.then K (fun _ _ _ => False)) { tmps := (ps.zip (encs x)).foldl (fun t (p, v) => t.setIfInBounds p v) a.tmps, defers := [] } W)
    (hbody : ∀ (l : Nat) (pre : List α) (x : α) (W : World), w.heap.size ≤ l → I pre W → pre.length < N → body.wpIn (Fence.wide.inRound l) (n - 1 - 1) P (ownPostG w.heap.size (fun A B => ∀ k ∈ T, B.heap[k]? = A.heap[k]?) I Ix (pre ++ [x]) W) (a₁ x) W)
    (hdone : ∀ (D : Nat) (xs : List α) (W : World), w.heap.size ≤ D → S xs → I xs W → W.heap[D]? = some (.deferred (some [])) → Q .normal { a with defers := { target := .collected D, args := #[] } :: a.defers } W)
    (hstop : ∀ (D : Nat) (c : Code) (pre : List α) (W : World), w.heap.size ≤ D → Sp pre → Ix c pre W → W.heap[D]? = some (.deferred (some [])) → c.wpIn Fence.wide n P Q { a with defers := { target := .collected D, args := #[] } :: a.defers } W) :
    (Code.rangeFunc g ps assign body).wpIn Fence.wide n P Q a w := by
  refine wpIn_rangeFunc fun fn hfn => ?_
  let rc : LoopState → Option Code → Loop := fun st pe => { state := st, pending := pe, fn, tmps := a.tmps, params := ps, assign, body, defers := w.heap.size }
  obtain ⟨W1, hW1⟩ : ∃ W1, (w.alloc (.deferred (some []))).alloc (.loop (rc .ready none)) = W1 := ⟨_, rfl⟩
  have t1 : Turn w.heap.size b w W1 := by
    rw [← hW1]
    refine ⟨rfl, rfl, rfl, by simp; omega, fun k o _ hk _ => ?_⟩
    have hlt := (Array.getElem?_eq_some_iff.1 hk).1
    rw [Below.heap_alloc _ _ k (by simp; omega), Below.heap_alloc _ _ k hlt, hk]
  have rec1 : W1.heap[w.heap.size + 1]? = some (.loop (rc .ready none)) := by
    rw [← hW1]
    have := World.alloc_heap_new (w.alloc (.deferred (some []))) (.loop (rc .ready none))
    rwa [World.size_alloc] at this
  have def1 : W1.heap[w.heap.size]? = some (.deferred (some [])) := by rw [← hW1, Below.heap_alloc _ _ _ (by simp), World.alloc_heap_new]
  refine ⟨w.heap.size + 1, [{ target := .collected w.heap.size, args := #[] }], W1, { target := .fn (.func gf) lb, args := #[.func (.yield (w.heap.size + 1)) #[] #[]] }, W1, gf,
    #[.func (.yield (w.heap.size + 1)) #[] #[]] ++ lb, W1, ?_, ?_, fun _ _ => trivial, ?_, fun _ => h1, ?_⟩
  · rw [← hW1]; exact run_enterLoop_outer _ _ _ _ _
  · simp only [resolve, hg]; simp [go_sem]
  · simp [invoke, go_sem, eg]
  have sk : ∀ {A : World} {v : Value} {k : Nat} {o : Obj}, w.heap.size ≤ k → A.heap[k]? = some o → (A.setCell ⟨b, 0, none⟩ v).heap[k]? = some o := fun hk h =>
    ((grownBy_setCell' _ b _).block _ (Array.getElem?_eq_some_iff.1 h).1 (by simp; omega)).trans h
  refine (hseq (w.heap.size + 1)
    (fun pre W => I pre W ∧ W.heap[w.heap.size + 1]? = some (.loop (rc .ready none)) ∧ W.heap[w.heap.size]? = some (.deferred (some [])))
    (fun pre W => ∃ c, Ix c pre W ∧ W.heap[w.heap.size + 1]? = some (.loop (rc .done (some c))) ∧ W.heap[w.heap.size]? = some (.deferred (some [])))
    W1 ?_ (fun s A v hs => ⟨hI s _ _ hs.1 (Turn.set A v), sk (by omega) hs.2.1, sk (Nat.le_refl _) hs.2.2⟩) ?_ ⟨hI _ _ _ h0 t1, rec1, def1⟩).mono ?_
  · intro k hk
    have := hT k hk
    rw [← hW1, Below.heap_alloc _ _ k (by simp; omega), Below.heap_alloc _ _ k this]
  · rintro pre x W ⟨hi, hl, hk⟩ hlen
    have hlt := (Array.getElem?_eq_some_iff.1 hl).1
    refine ⟨fn, _, assign, body, run_yield (P := P) (args := encs x) hl (hps x), roundIn_of_wpIn hfn (hassign _ x W _ ⟨_, run_beginRound hl rfl, ?_⟩)⟩
    have busy : (W.putObj (w.heap.size + 1) (.loop (rc .busy none))).heap[w.heap.size + 1]? = some (.loop (rc .busy none)) := World.putObj_heap_same hlt
    have held : (W.putObj (w.heap.size + 1) (.loop (rc .busy none))).heap[w.heap.size]? = some (.deferred (some [])) := (World.putObj_heap_other (by omega)).trans hk
    refine wpIn_mono (hbody _ pre x _ (by omega) (hI _ _ _ hi (Turn.put (by omega) hl rfl _)) hlen) ?_
    have fin : ∀ (jump : Option Code) (W3 : World), KeepsFrom w.heap.size (W.putObj (w.heap.size + 1) (.loop (rc .busy none))) W3 →
        (Instr.endRound (w.heap.size + 1) jump).run P W3 = .ok (.bool jump.isNone) (W3.putObj (w.heap.size + 1) (.loop (rc (if jump.isNone then .ready else .done) jump))) ∧
        W3.heap[w.heap.size + 1]? = some (.loop (rc .busy none)) ∧
        (W3.putObj (w.heap.size + 1) (.loop (rc (if jump.isNone then .ready else .done) jump))).heap[w.heap.size + 1]? = some (.loop (rc (if jump.isNone then .ready else .done) jump)) ∧
        (W3.putObj (w.heap.size + 1) (.loop (rc (if jump.isNone then .ready else .done) jump))).heap[w.heap.size]? = some (.deferred (some [])) := fun jump W3 k3 => by
      have l3 := k3.same _ _ (by omega) busy rfl
      exact ⟨run_endRound (P := P) jump l3, l3, World.putObj_heap_same (Array.getElem?_eq_some_iff.1 l3).1, (World.putObj_heap_other (by omega)).trans (k3.same _ _ (Nat.le_refl _) held rfl)⟩
    have bk : ∀ (A : World) (o : Obj) (k : Nat), k ∈ T → (A.putObj (w.heap.size + 1) o).heap[k]? = A.heap[k]? := fun A o k hk => World.putObj_heap_other (by have := hT k hk; omega)
    rintro e a3 W3 hp
    cases e with
    | normal =>
      obtain ⟨k3, b3, i3⟩ := hp
      obtain ⟨r, l3, l4, d4⟩ := fin none W3 k3
      exact ⟨_, _, r, .inl ⟨rfl, ⟨hI _ _ _ i3 (Turn.put (by omega) l3 rfl _), l4, d4⟩, fun k hk => by rw [bk _ _ k hk, b3 k hk, bk _ _ k hk]⟩⟩
    | ret =>
      obtain ⟨k3, i3⟩ := hp
      obtain ⟨r, l3, l4, d4⟩ := fin (some .ret) W3 k3
      exact ⟨_, _, r, .inr ⟨rfl, .ret, hIx _ _ _ _ i3 (Turn.put (by omega) l3 rfl _), l4, d4⟩⟩
    | exit id =>
      obtain ⟨k3, i3⟩ := hp
      obtain ⟨r, l3, l4, d4⟩ := fin (some (.exit id)) W3 k3
      exact ⟨_, _, r, .inr ⟨rfl, .exit id, hIx _ _ _ _ i3 (Turn.put (by omega) l3 rfl _), l4, d4⟩⟩
    | goto t =>
      obtain ⟨k3, i3⟩ := hp
      obtain ⟨r, l3, l4, d4⟩ := fin (some (.goto t)) W3 k3
      exact ⟨_, _, r, .inr ⟨rfl, .goto t, hIx _ _ _ _ i3 (Turn.put (by omega) l3 rfl _), l4, d4⟩⟩
    | panic ch => exact hp.elim
    | outgrown => exact hp.elim
  · rintro e W2 ⟨⟨v, rfl⟩, (⟨xs, hS, hi, hl, hk⟩ | ⟨pre, hSp, c, hi, hl, hk⟩)⟩
    · exact ⟨none, _, run_endLoop (P := P) hl (by simp [rc]), hdone _ xs _ (Nat.le_refl _) hS (hI _ _ _ hi (Turn.put (by omega) hl rfl _)) ((World.putObj_heap_other (by omega)).trans hk)⟩
    · exact ⟨some c, _, run_endLoop (P := P) hl (by simp [rc]), hstop _ c pre _ (Nat.le_refl _) hSp (hIx _ _ _ _ hi (Turn.put (by omega) hl rfl _)) ((World.putObj_heap_other (by omega)).trans hk)⟩
end Go.Proofs.Ytgbdlgogccgciaa
