import Derived.Test.YtgbdlgogccgciaaMinC
namespace Go.Proofs.Ytgbdlgogccgciaa
open Go.RowKit

/- WHICH STATES OF A LIST ARE APART. -/
def putM (m : Nat → Nat → Bool) (x y : Nat) : Nat → Nat → Bool := fun a b => if a = x ∧ b = y then true else m a b
/-- How many pairs are not apart. -/
def restM (n : Nat) (m : Nat → Nat → Bool) : Nat := ((List.range n).map fun x => ((List.range n).filter fun y => !m x y).length).sum
theorem filter_put (m : Nat → Nat → Bool) (x y : Nat) : ∀ n, y < n → m x y = false → ((List.range n).filter fun b => !putM m x y x b).length + 1 = ((List.range n).filter fun b => !m x b).length
  | 0, h, _ => absurd h (Nat.not_lt_zero _)
  | n + 1, h, hm => by
    rw [List.range_succ, List.filter_append, List.filter_append, List.length_append, List.length_append]
    by_cases e : y = n
    · subst e
      have h1 : ((List.range y).filter fun b => !putM m x y x b) = (List.range y).filter fun b => !m x b := List.filter_congr fun b hb => by
        have : b < y := by simpa using hb
        unfold putM
        rw [if_neg (by omega)]
      rw [h1]
      simp [putM, hm]
    · have ih := filter_put m x y n (by omega) hm
      have h1 : ([n].filter fun b => !putM m x y x b) = [n].filter fun b => !m x b := List.filter_congr fun b hb => by
        simp at hb
        unfold putM
        rw [if_neg (by omega)]
      rw [h1]
      omega
theorem sum_put {f g : Nat → Nat} {x : Nat} (hne : ∀ a, a ≠ x → f a = g a) (hx : f x + 1 = g x) : ∀ n, x < n → ((List.range n).map f).sum + 1 = ((List.range n).map g).sum
  | 0, h => absurd h (Nat.not_lt_zero _)
  | n + 1, h => by
    rw [List.range_succ, List.map_append, List.map_append, List.sum_append, List.sum_append]
    by_cases e : x = n
    · subst e
      have : (List.range x).map f = (List.range x).map g := List.map_congr_left fun a ha => hne a (by have : a < x := by simpa using ha
                                                                                                      omega)
      rw [this]
      simp only [List.map_cons, List.map_nil, List.sum_cons, List.sum_nil]
      omega
    · have ih := sum_put hne hx n (by omega)
      have := hne n (fun e2 => e e2.symm)
      simp only [List.map_cons, List.map_nil, List.sum_cons, List.sum_nil]
      omega
theorem rest_put {n x y : Nat} {m : Nat → Nat → Bool} (hx : x < n) (hy : y < n) (hm : m x y = false) : restM n (putM m x y) + 1 = restM n m := by
  unfold restM
  refine sum_put (x := x) (fun a ha => ?_) (filter_put m x y n hy hm) n hx
  have : ((List.range n).filter fun b => !putM m x y a b) = (List.range n).filter fun b => !m a b := List.filter_congr fun b _ => by
    unfold putM
    rw [if_neg (fun e => ha e.1)]
  rw [this]

/-- What is apart is told apart; what answers otherwise is apart. -/
structure ApI (d : DfaD) (l : List Nat) (m : Nat → Nat → Bool) : Prop where
  snd : ∀ x y, x < l.length → y < l.length → m x y = true → ¬Alike (stN d) (anN d) (l.getD x 0) (l.getD y 0)
  base : ∀ x y, x < l.length → y < l.length → anN d (l.getD x 0) ≠ anN d (l.getD y 0) → m x y = true
theorem idx_of {l : List Nat} {x : Nat} (hx : x ∈ l) : ∃ i, i < l.length ∧ l.getD i 0 = x := by
  obtain ⟨i, hi, e⟩ := List.mem_iff_getElem.1 hx
  exact ⟨i, hi, by rw [List.getD_eq_getElem?_getD, List.getElem?_eq_getElem hi]; exact e⟩
theorem nodup_idx {l : List Nat} (h : l.Nodup) {i j : Nat} (hi : i < l.length) (hj : j < l.length) (e : l.getD i 0 = l.getD j 0) : i = j := by
  rw [List.getD_eq_getElem?_getD, List.getElem?_eq_getElem hi, List.getD_eq_getElem?_getD, List.getElem?_eq_getElem hj] at e
  have hp := List.pairwise_iff_getElem.1 h
  simp only [Option.getD_some] at e
  rcases Nat.lt_trichotomy i j with k | k | k
  · exact absurd e (hp i j hi hj k)
  · exact k
  · exact absurd e.symm (hp j i hj hi k)
/-- Nothing grows any more: what is not apart is alike. -/
theorem apart_end {d : DfaD} (hf : DfaFine d) {l : List Nat} (hR : RchD d l) {m : Nat → Nat → Bool} (hA : ApI d l m)
    (hc : ∀ x y, x < l.length → y < l.length → m x y = false → ∀ c, c < wdN d → (c : Int) ∈ d.classes → ∀ tx ty, tx < l.length → ty < l.length → l.getD tx 0 = nxN d (l.getD x 0) c → l.getD ty 0 = nxN d (l.getD y 0) c → m tx ty = false)
    {x y : Nat} (hx : x < l.length) (hy : y < l.length) : m x y = false ↔ Alike (stN d) (anN d) (l.getD x 0) (l.getD y 0) := by
  constructor
  · intro h
    refine alike_of (fun s t => ∃ x y, x < l.length ∧ y < l.length ∧ l.getD x 0 = s ∧ l.getD y 0 = t ∧ m x y = false) ?_ ?_ ⟨x, y, hx, hy, rfl, rfl, h⟩
    · rintro s t ⟨x, y, hx, hy, rfl, rfl, h⟩
      by_cases e : anN d (l.getD x 0) = anN d (l.getD y 0)
      · exact e
      · have := hA.base x y hx hy e; rw [h] at this; cases this
    · rintro s t c ⟨x, y, hx, hy, rfl, rfl, h⟩ hcc
      have mx : l.getD x 0 ∈ l := by rw [List.getD_eq_getElem?_getD, List.getElem?_eq_getElem hx]; exact List.getElem_mem _
      have my : l.getD y 0 ∈ l := by rw [List.getD_eq_getElem?_getD, List.getElem?_eq_getElem hy]; exact List.getElem_mem _
      obtain ⟨tx, htx, ex⟩ := idx_of (hR.cl _ mx c hcc)
      obtain ⟨ty, hty, ey⟩ := idx_of (hR.cl _ my c hcc)
      refine ⟨tx, ty, htx, hty, ex, ey, hc x y hx hy h (clN d c) (hf.clc hcc).2 ?_ tx ty htx hty ex ey⟩
      rw [← (hf.clc hcc).1, List.getD_eq_getElem?_getD, List.getElem?_eq_getElem (by have := hf.cl; omega)]
      exact List.getElem_mem _
  · intro h
    cases e : m x y
    · rfl
    · exact absurd h (hA.snd x y hx hy e)
/-- A pair found apart. -/
theorem ApI.put {d : DfaD} {l : List Nat} {m : Nat → Nat → Bool} (h : ApI d l m) {x y tx ty c : Nat} (htx : tx < l.length) (hty : ty < l.length) (ex : l.getD tx 0 = stN d (l.getD x 0) c) (ey : l.getD ty 0 = stN d (l.getD y 0) c) (hc : c < 256) (ht : m tx ty = true) : ApI d l (putM m x y) :=
  ⟨fun a b ha hb e => by
    unfold putM at e
    split at e
    · rename_i k
      obtain ⟨rfl, rfl⟩ := k
      intro al
      have := al.step hc
      rw [← ex, ← ey] at this
      exact h.snd tx ty htx hty ht this
    · exact h.snd a b ha hb e, fun a b ha hb e => by
    unfold putM
    split
    · rfl
    · exact h.base a b ha hb e⟩
end Go.Proofs.Ytgbdlgogccgciaa
namespace Go.Proofs.Ytgbdlgogccgciaa
open Go.RowKit
attribute [local go_sem ↓] Go.wp_at_zero Go.wp_at_succ

/-- Places of the states of a list. -/
def PlI (l zs : List Nat) (n k : Nat) : Prop := zs.length = n ∧ ∀ j, j < k → zs.getD (l.getD j 0) 0 = j
theorem PlI.next {l zs : List Nat} {n k : Nat} (h : PlI l zs n k) (hn : l.Nodup) (hk : k < l.length) (hl : l.getD k 0 < n) : PlI l (zs.set (l.getD k 0) k) n (k + 1) := by
  refine ⟨by simp [h.1], fun j hj => ?_⟩
  have h1 := h.1
  by_cases e : j = k
  · subst e
    rw [List.getD_eq_getElem?_getD, List.getElem?_set_self (by omega)]
    rfl
  · have hne : l.getD k 0 ≠ l.getD j 0 := fun e2 => e (nodup_idx hn hk (by omega) e2).symm
    rw [List.getD_eq_getElem?_getD, List.getElem?_set_ne hne, ← List.getD_eq_getElem?_getD]
    exact h.2 j (by omega)
def usedF (d : DfaD) (c : Nat) : List Nat := (List.range c).filter fun i => decide ((i : Int) ∈ d.classes)
theorem usedF_succ (d : DfaD) (c : Nat) : usedF d (c + 1) = if (c : Int) ∈ d.classes then usedF d c ++ [c] else usedF d c := by
  unfold usedF
  rw [List.range_succ, List.filter_append]
  by_cases h : (c : Int) ∈ d.classes
  · rw [if_pos h]; simp [h]
  · rw [if_neg h]; simp [h]
theorem usedF_mem {d : DfaD} {c i : Nat} : i ∈ usedF d c ↔ i < c ∧ (i : Int) ∈ d.classes := by simp [usedF]
theorem usedF_len (d : DfaD) (c : Nat) : (usedF d c).length ≤ c := by
  have := List.length_filter_le (fun i : Nat => decide ((i : Int) ∈ d.classes)) (List.range c)
  simpa [usedF] using this
theorem made_nats (n : Nat) : (madeCells (Value.int .i64 0).cells (n * 1)).toList = natL (List.replicate n 0) := by
  apply List.ext_getElem?
  intro i
  by_cases h : i < n
  · simp [madeCells, natL, Value.cells, Nat.mod_one, h]
  · simp [madeCells, natL, h]

end Go.Proofs.Ytgbdlgogccgciaa
