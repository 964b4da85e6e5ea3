import Derived.Test.YtgbdlgogccgciaaMiJMiO
import Derived.Test.YtgbdlgogccgciaaMinH
namespace Go.Proofs.Ytgbdlgogccgciaa
open Go.RowKit

/- ROWS OF ARROWS. -/
def pairL (l : List (Nat × Nat)) : List Value := l.flatMap fun x => [.int .i64 (x.1 : Int), .int .i64 (x.2 : Int)]
theorem pairL_len (l : List (Nat × Nat)) : (pairL l).length = l.length * 2 := by
  induction l with
  | nil => rfl
  | cons x l ih => show ([_, _] ++ pairL l).length = _; rw [List.length_append, ih]; simp; omega
theorem pairL_snoc (l : List (Nat × Nat)) (x : Nat × Nat) : pairL (l ++ [x]) = pairL l ++ [.int .i64 (x.1 : Int), .int .i64 (x.2 : Int)] := by simp [pairL]
theorem pairL_get : ∀ (l : List (Nat × Nat)) (j : Nat), j < l.length → (pairL l)[j * 2]? = some (.int .i64 (((l.getD j (0, 0)).1 : Nat) : Int)) ∧ (pairL l)[j * 2 + 1]? = some (.int .i64 (((l.getD j (0, 0)).2 : Nat) : Int))
  | [], j, h => absurd h (Nat.not_lt_zero _)
  | x :: l, 0, _ => ⟨rfl, rfl⟩
  | x :: l, j + 1, h => by
    have ih := pairL_get l j (by simpa using h)
    have e : pairL (x :: l) = .int .i64 (x.1 : Int) :: .int .i64 (x.2 : Int) :: pairL l := rfl
    rw [e, show (j + 1) * 2 = j * 2 + 1 + 1 by omega]
    exact ih
def rowV (v : Nat → Value) (n : Nat) : List Value := (List.range n).map v
theorem rowV_get (v : Nat → Value) {n s : Nat} (h : s < n) : (rowV v n)[s]? = some (v s) := by simp [rowV, h]
theorem rowV_set (v : Nat → Value) (n s : Nat) (u : Value) : (rowV v n).set s u = rowV (upd v s u) n := by
  apply List.ext_getElem?
  intro i
  rw [List.getElem?_set]
  have hl : ∀ f : Nat → Value, (rowV f n).length = n := fun f => by simp [rowV]
  by_cases hi : i < n
  · rw [rowV_get v hi, rowV_get _ hi, hl]
    by_cases e : s = i
    · subst e; rw [if_pos rfl, if_pos hi, upd_same]
    · rw [if_neg e, upd_ne _ _ (fun k => e k.symm)]
  · rw [List.getElem?_eq_none (by rw [hl]; omega), List.getElem?_eq_none (by rw [hl]; omega), hl]
    by_cases e : s = i
    · rw [if_pos e, if_neg (by omega)]
    · rw [if_neg e]
/-- n rows of arrows behind a row of slices. -/
structure ArS (B : Nat) (W : World) (gI n : Nat) (v : Nat → Value) (A : Nat → List (Nat × Nat)) : Prop where
  out : W.ownsRow B 63 1 (.slice (some ⟨gI, 0, none⟩) n n) n (rowV v n)
  rows : ∀ s, s < n → W.ownsRow B 65 2 (v s) (A s).length (pairL (A s))
  apart : ∀ s t, s < n → t < n → s ≠ t → ∀ b, (v s).ownBlock = some b → (v t).ownBlock ≠ some b
theorem own_blockT {w : World} {B n k sz : Nat} {e : TypeId} {v : Value} {xs : List Value} (h : w.ownsRow B e sz v n xs) (hk : v.ownBlock = some k) : B ≤ k ∧ ∃ cur, w.heap[k]? = some (.cells cur e (0, 0)) := by
  rcases h.2 with ⟨rfl, _⟩ | ⟨g, cap, cur, rfl, hg, hh, _⟩
  · simp [Value.ownBlock] at hk
  · simp [Value.ownBlock] at hk
    subst hk
    exact ⟨hg, cur, hh⟩
theorem own_keepB {w W : World} {base : Nat} {e : TypeId} {sz : Nat} {v : Value} {n : Nat} {xs : List Value} (h : w.ownsRow base e sz v n xs) (hk : ∀ b, v.ownBlock = some b → W.heap[b]? = w.heap[b]?) : W.ownsRow base e sz v n xs := by
  refine ⟨h.1, ?_⟩
  rcases h.2 with h0 | ⟨g, cap, cur, hv, hg, hh, r⟩
  · exact .inl h0
  · exact .inr ⟨g, cap, cur, hv, hg, (hk g (by rw [hv]; rfl)).trans hh, r⟩
theorem ArS.below {B gI n : Nat} {W W' : World} {v : Nat → Value} {A : Nat → List (Nat × Nat)} (h : ArS B W gI n v A) (hb : Below W.heap.size W W') : ArS B W' gI n v A :=
  ⟨ownsRow_below h.out hb, fun s hs => ownsRow_below (h.rows s hs) hb, h.apart⟩
theorem Try.infoArrow : (Try.prog.info? 65).map (fun i => (i.zero, i.size, i.bytes)) = some (some (.agg #[.int .i64 0, .int .i64 0]), 2, 16) := by kernel_rfl
/-- An arrow appended to row i, up to the store. -/
theorem wpList_ar {ops : Array Oper} {rest : List Oper} {o : Oper} {a : Act} {Q : Exit → Act → World → Prop} {W : World} {B gI n : Nat} {v : Nat → Value} {A : Nat → List (Nat × Nat)} (S : ArS B W gI n v A) (H : Nat) (hH : W.heap.size = H) (hgd : o.guard = none) (s x : Operand)
    (ho : o.op = .call { callee := .builtin .append, args := #[s, x], argTypes := #[63, 63] }) (i : Nat) (hi : i < n) (m : Nat) (hm : (A i).length = m) (hs : a.eval s = v i) (f c : Nat) (hx : a.eval x = .slice (some ⟨H, 0, none⟩) 1 1) (hl : m ≤ 2000000) (hB : B ≤ W.heap.size)
    (h : ∀ g cap W', W'.ownsRow B 65 2 (.slice (some ⟨g, 0, none⟩) (m + 1) cap) (m + 1) (pairL (A i ++ [(f, c)])) → W.grownBy W' (v i).ownBlock → ((v i).ownBlock = some g ∨ W.heap.size ≤ g) → wpList Try.prog ops Q rest (a.put o.dst (.slice (some ⟨g, 0, none⟩) (m + 1) cap)) W') :
    wpList Try.prog ops Q (o :: rest) a (W.alloc (.cells #[.int .i64 (f : Int), .int .i64 (c : Int)] 65)) := by
  subst hH; subst hm
  obtain ⟨i0, hi0, hz0, hz1, hz2⟩ := info_parts Try.infoArrow
  have hb : Below W.heap.size W (W.alloc (.cells #[.int .i64 (f : Int), .int .i64 (c : Int)] 65)) := (Below.refl _ _).alloc (Nat.le_refl _) _
  refine wpList_append_lies _ hgd s x 63 ho B 65 i0 _ 2 16 Try.underlying63 hi0 hz0 hz1 hz2 rfl (by omega) (v i) (A i).length (pairL (A i)) hs (ownsRow_below (S.rows i hi) hb) ⟨W.heap.size, 0, none⟩ 1 1 [.int .i64 (f : Int), .int .i64 (c : Int)] hx rfl (World.news_of_block (heap_alloc_new _ _)) (by intro u hu; simp at hu; rcases hu with rfl | rfl <;> rfl) (by omega) (by unfold maxLen; omega) (by omega) (by simp; omega) (W.heap.size + 1) (by simp) ?_
  intro g cap W' own' grow' at' _
  refine h g cap W' (by rw [pairL_snoc]; exact own') ?_ (at'.imp id (fun e => by omega))
  exact ⟨grow'.os.trans hb.os, grow'.tape.trans hb.tape, grow'.output.trans hb.output, Nat.le_trans hb.size grow'.size, fun k hk hne => (grow'.block k (by have := hb.size; omega) hne).trans (hb.block k hk)⟩
/-- .. and stored. -/
theorem ArS.app {B gI n : Nat} {W W' : World} {v : Nat → Value} {A : Nat → List (Nat × Nat)} (S : ArS B W gI n v A) {i : Nat} (hi : i < n) {g cap f c : Nat} (ho : W'.ownsRow B 65 2 (.slice (some ⟨g, 0, none⟩) ((A i).length + 1) cap) ((A i).length + 1) (pairL (A i ++ [(f, c)]))) (hg : W.grownBy W' (v i).ownBlock) (hat : (v i).ownBlock = some g ∨ W.heap.size ≤ g) :
    W'.cell? ⟨gI, i, none⟩ = some (v i) ∧ W'.frozen? ⟨gI, i, none⟩ = false ∧ ArS B (W'.setCell ⟨gI, i, none⟩ (.slice (some ⟨g, 0, none⟩) ((A i).length + 1) cap)) gI n (upd v i (.slice (some ⟨g, 0, none⟩) ((A i).length + 1) cap)) (fun j => if j = i then A i ++ [(f, c)] else A j) := by
  obtain ⟨_, cur, hc⟩ := own_blockT S.out (k := gI) rfl
  have hout : W'.ownsRow B 63 1 (.slice (some ⟨gI, 0, none⟩) n n) n (rowV v n) := own_keepM S.out fun b cs hb => (hg.block b (row_lt hb) (fun e => by
    obtain ⟨_, cur2, hc2⟩ := own_blockT (S.rows i hi) e.symm
    rw [hb] at hc2
    exact absurd (cells_typeM hc2) (by decide))).trans hb
  obtain ⟨_, cur1, hc1⟩ := own_blockT hout (k := gI) rfl
  have hcell := hout.cellAt i (by omega)
  rw [rowV_get v hi] at hcell
  have hgs := grown_putM W' gI i (.slice (some ⟨g, 0, none⟩) ((A i).length + 1) cap)
  have hkeep : ∀ (b : Nat) (cs : Array Value), W'.heap[b]? = some (.cells cs 65 (0, 0)) → (W'.setCell ⟨gI, i, none⟩ (.slice (some ⟨g, 0, none⟩) ((A i).length + 1) cap)).heap[b]? = some (.cells cs 65 (0, 0)) := fun b cs hb => (hgs.block b (row_lt hb) (fun e => by
    cases e
    rw [hc1] at hb
    exact absurd (cells_typeM hb) (by decide))).trans hb
  have hnew : ∀ j, j < n → j ≠ i → ∀ b, (v j).ownBlock = some b → b ≠ g := fun j hj hji b hb e => by
    rcases hat with k | k
    · exact S.apart j i hj hi hji b hb (by rw [k, e])
    · obtain ⟨_, cur3, hc3⟩ := own_blockT (S.rows j hj) hb
      have := row_lt hc3
      omega
  refine ⟨hcell, frozen_of_row _ _ i _ _ hc1, ?_, fun j hj => ?_, fun s t hs ht hst b hb => ?_⟩
  · have := (hout.stored i (.slice (some ⟨g, 0, none⟩) ((A i).length + 1) cap)).1
    rw [rowV_set] at this
    exact this
  · by_cases e : j = i
    · subst e
      rw [upd_same]
      simp only [if_pos]
      rw [show (A j ++ [(f, c)]).length = (A j).length + 1 by simp]
      exact own_keepM ho hkeep
    · rw [upd_ne _ _ e]
      simp only [if_neg e]
      refine own_keepM (own_keepB (S.rows j hj) fun b hb => ?_) hkeep
      obtain ⟨_, cur3, hc3⟩ := own_blockT (S.rows j hj) hb
      exact hg.block b (row_lt hc3) (fun e2 => S.apart j i hj hi e b hb e2.symm)
  · by_cases e : s = i
    · subst e
      rw [upd_same] at hb
      simp [Value.ownBlock] at hb
      subst hb
      rw [upd_ne _ _ (Ne.symm hst)]
      exact fun hc' => hnew t ht (Ne.symm hst) _ hc' rfl
    · rw [upd_ne _ _ e] at hb
      by_cases e2 : t = i
      · subst e2
        rw [upd_same]
        intro hc'
        simp [Value.ownBlock] at hc'
        exact hnew s hs e b hb hc'.symm
      · rw [upd_ne _ _ e2]
        exact S.apart s t hs ht hst b hb
end Go.Proofs.Ytgbdlgogccgciaa
namespace Go.Proofs.Ytgbdlgogccgciaa
open Go.RowKit

/- ARROWS (mathematics): those of the rows before k, and of row k those of the classes before c. -/
structure ArI (d : DfaD) (A : Nat → List (Nat × Nat)) (k c : Nat) : Prop where
  mem : ∀ t x, x ∈ A t ↔ (x.1 < k ∨ (x.1 = k ∧ x.2 < c)) ∧ x.2 ∈ usedF d (wdN d) ∧ nxN d x.1 x.2 = t
  nd : ∀ t, (A t).Nodup
  len : ∀ t, (A t).length ≤ k * 256 + c
theorem ArI.start (d : DfaD) : ArI d (fun _ => []) 0 0 := ⟨fun t x => by simp, fun _ => List.nodup_nil, fun _ => Nat.zero_le _⟩
theorem ArI.skip {d : DfaD} {A : Nat → List (Nat × Nat)} {k c : Nat} (h : ArI d A k c) (hc : c ∉ usedF d (wdN d)) : ArI d A k (c + 1) := by
  refine ⟨fun t x => ?_, h.nd, fun t => by have := h.len t; omega⟩
  rw [h.mem t x]
  constructor
  · rintro ⟨a, b, e⟩; exact ⟨by omega, b, e⟩
  · rintro ⟨a, b, e⟩
    refine ⟨?_, b, e⟩
    have : x.2 ≠ c := fun k => hc (k ▸ b)
    omega
theorem ArI.add {d : DfaD} {A : Nat → List (Nat × Nat)} {k c : Nat} (h : ArI d A k c) (hc : c ∈ usedF d (wdN d)) {t0 : Nat} (ht : nxN d k c = t0) : ArI d (fun j => if j = t0 then A t0 ++ [(k, c)] else A j) k (c + 1) := by
  subst ht
  refine ⟨fun t x => ?_, fun t => ?_, fun t => ?_⟩
  · obtain ⟨x1, x2⟩ := x
    by_cases e : t = nxN d k c
    · subst e
      simp only [if_pos, List.mem_append, List.mem_singleton, Prod.mk.injEq]
      rw [h.mem]
      dsimp only
      constructor
      · rintro (⟨a, b, f⟩ | ⟨rfl, rfl⟩)
        · exact ⟨by omega, b, f⟩
        · exact ⟨by omega, hc, rfl⟩
      · rintro ⟨a, b, f⟩
        by_cases g : x1 = k ∧ x2 = c
        · exact .inr g
        · exact .inl ⟨by omega, b, f⟩
    · simp only [if_neg e]
      rw [h.mem]
      dsimp only
      constructor
      · rintro ⟨a, b, f⟩; exact ⟨by omega, b, f⟩
      · rintro ⟨a, b, f⟩
        refine ⟨?_, b, f⟩
        have : ¬(x1 = k ∧ x2 = c) := fun ⟨g1, g2⟩ => e (by rw [← f, g1, g2])
        omega
  · by_cases e : t = nxN d k c
    · subst e
      simp only [if_pos]
      rw [List.nodup_append]
      refine ⟨h.nd _, by simp, fun a ha b hb e => ?_⟩
      simp at hb
      subst hb
      subst e
      have := (h.mem _ _).1 ha
      dsimp only at this
      omega
    · simp only [if_neg e]
      exact h.nd t
  · have h1 := h.len t
    have h2 := h.len (nxN d k c)
    by_cases e : t = nxN d k c
    · simp only [if_pos e, List.length_append, List.length_singleton]; omega
    · simp only [if_neg e]; omega
set_option maxRecDepth 10000 in
theorem ArI.row {d : DfaD} (hf : DfaFine d) {A : Nat → List (Nat × Nat)} {k : Nat} (h : ArI d A k (wdN d)) : ArI d A (k + 1) 0 := by
  have hw := hf.wd.2.2
  refine ⟨fun t x => ?_, h.nd, fun t => by have := h.len t; omega⟩
  rw [h.mem t x]
  constructor
  · rintro ⟨a, b, e⟩; exact ⟨by omega, b, e⟩
  · rintro ⟨a, b, e⟩
    have := (usedF_mem.1 b).1
    exact ⟨by omega, b, e⟩
/-- Which classes the bytes before k have. -/
def useF (d : DfaD) (k : Nat) (i : Nat) : Bool := (List.range k).any fun j => decide (clN d j = i)
theorem useF_succ (d : DfaD) (k : Nat) : (fun i => if i = clN d k then true else useF d k i) = useF d (k + 1) := by
  funext i
  unfold useF
  rw [List.range_succ, List.any_append]
  by_cases e : i = clN d k
  · subst e; simp
  · rw [if_neg e]
    have : ¬clN d k = i := fun k => e k.symm
    simp [this]
theorem useF_all {d : DfaD} (hf : DfaFine d) {i : Nat} (hi : i < wdN d) : useF d 256 i = true ↔ i ∈ usedF d (wdN d) := by
  unfold useF
  rw [List.any_eq_true]
  constructor
  · rintro ⟨x, hx, h⟩
    have e := of_decide_eq_true h
    have hx2 : x < 256 := by simpa using hx
    refine usedF_mem.2 ⟨hi, ?_⟩
    rw [← e, ← (hf.clc hx2).1, List.getD_eq_getElem?_getD, List.getElem?_eq_getElem (by have := hf.cl; omega)]
    exact List.getElem_mem _
  · intro h
    obtain ⟨ch, h1, h2⟩ := used_byte hf h
    exact ⟨ch, by simpa using h1, by simpa using h2⟩
end Go.Proofs.Ytgbdlgogccgciaa
