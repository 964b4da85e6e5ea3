import Derived.Test.YtgbdlgogccgciaaMiI
namespace Go.Proofs.Ytgbdlgogccgciaa
open Go.RowKit

/- BITS OF A TRAIT. -/
def bitW (T : Nat → Nat) (c : Nat) : Bool := (T (c / 64)).testBit (c % 64)
def addW (T : Nat → Nat) (p : Nat) : Nat → Nat := fun j => if j = p / 64 then T (p / 64) ||| 2 ^ (p % 64) else T j
theorem addW_bit (T : Nat → Nat) (p s : Nat) : bitW (addW T p) s = (bitW T s || decide (s = p)) := by
  unfold bitW addW
  by_cases e : s / 64 = p / 64
  · rw [if_pos e, Nat.testBit_or, Nat.testBit_two_pow, e]
    congr 1
    by_cases h : s = p
    · subst h; simp
    · rw [decide_eq_false h, decide_eq_false (by omega)]
  · rw [if_neg e, decide_eq_false (fun h => e (by rw [h])), Bool.or_false]
theorem addW_lt {T : Nat → Nat} (hT : ∀ i, T i < 18446744073709551616) (p : Nat) : ∀ i, addW T p i < 18446744073709551616 := fun i => by
  unfold addW
  split
  · exact Nat.or_lt_two_pow (n := 64) (hT _) (Nat.pow_lt_pow_right (by omega) (Nat.mod_lt _ (by omega)))
  · exact hT i
theorem words_eq {T U : Nat → Nat} (hT : ∀ i, T i < 18446744073709551616) (hU : ∀ i, U i < 18446744073709551616) (h : ∀ c, c < 256 → bitW T c = bitW U c) : ∀ i, i < 4 → T i = U i := fun i hi => by
  apply Nat.eq_of_testBit_eq
  intro j
  by_cases hj : j < 64
  · have := h (i * 64 + j) (by omega)
    unfold bitW at this
    rw [show (i * 64 + j) / 64 = i by omega, show (i * 64 + j) % 64 = j by omega] at this
    exact this
  · have h1 : ∀ X : Nat, X < 18446744073709551616 → X.testBit j = false := fun X hX => Nat.testBit_lt_two_pow (Nat.lt_of_lt_of_le hX (Nat.pow_le_pow_right (n := 2) (by omega) (show 64 ≤ j by omega)))
    rw [h1 _ (hT i), h1 _ (hU i)]
def trW (T : Nat → Nat) : Tr := (0, T 0, T 1, T 2, T 3)
theorem trW_eq {T U : Nat → Nat} (hT : ∀ i, T i < 18446744073709551616) (hU : ∀ i, U i < 18446744073709551616) : (trW T).2 = (trW U).2 ↔ ∀ c, c < 256 → bitW T c = bitW U c := by
  constructor
  · intro h c hc
    simp only [trW, Prod.mk.injEq] at h
    unfold bitW
    have : c / 64 = 0 ∨ c / 64 = 1 ∨ c / 64 = 2 ∨ c / 64 = 3 := by omega
    rcases this with k | k | k | k <;> rw [k]
    · rw [h.1]
    · rw [h.2.1]
    · rw [h.2.2.1]
    · rw [h.2.2.2]
  · intro h
    have := words_eq hT hU h
    simp only [trW, Prod.mk.injEq]
    exact ⟨this 0 (by omega), this 1 (by omega), this 2 (by omega), this 3 (by omega)⟩

/- A CUT BY THE BITS OF A SPLITTER. -/
theorem groups_same {o : List Nat} {tr : Nat → Tr} {xs : List Nat} {s t : Nat} : (∀ g ∈ (List.range (kindsF o tr xs).length).map (grpJ o tr xs), (s ∈ g ↔ t ∈ g)) ↔ (s ∈ xs ↔ t ∈ xs) ∧ (s ∈ xs → kindF o tr s = kindF o tr t) := by
  have key : ∀ x, x ∈ xs → ∃ j, j < (kindsF o tr xs).length ∧ (kindsF o tr xs).getD j kz = kindF o tr x := fun x hx => by
    have hm : kindF o tr x ∈ kindsF o tr xs := kindsF_mem.2 ⟨x, hx, rfl⟩
    exact ⟨_, idxR_lt.2 hm, getD_idxR hm⟩
  constructor
  · intro h
    have f : ∀ a b : Nat, (∀ g ∈ (List.range (kindsF o tr xs).length).map (grpJ o tr xs), (a ∈ g ↔ b ∈ g)) → a ∈ xs → b ∈ xs ∧ kindF o tr a = kindF o tr b := fun a b hab ha => by
      obtain ⟨j, hj, ej⟩ := key a ha
      have := (hab _ (List.mem_map.2 ⟨j, by simpa using hj, rfl⟩)).1 (by unfold grpJ; rw [ej]; exact grpF_mem.2 ⟨ha, rfl⟩)
      unfold grpJ at this
      rw [ej] at this
      obtain ⟨h1, h2⟩ := grpF_mem.1 this
      exact ⟨h1, h2.symm⟩
    exact ⟨⟨fun k => (f s t h k).1, fun k => (f t s (fun g hg => (h g hg).symm) k).1⟩, fun k => (f s t h k).2⟩
  · rintro ⟨h1, h2⟩ g hg
    obtain ⟨j, _, rfl⟩ := List.mem_map.1 hg
    unfold grpJ
    rw [grpF_mem, grpF_mem]
    constructor
    · rintro ⟨a, b⟩; exact ⟨h1.1 a, (h2 a).symm.trans b⟩
    · rintro ⟨a, b⟩; exact ⟨h1.2 a, (h2 (h1.2 a)).trans b⟩
/-- What the splitter b shows of the states: xs those that come to it, tr by which classes. -/
structure SplB (d : DfaD) (o : List Nat) (b : Nat) (xs : List Nat) (tr : Nat → Tr) : Prop where
  nd : xs.Nodup
  lt : ∀ s ∈ xs, s < d.tag.length
  mem : ∀ s, s < d.tag.length → (s ∈ xs ↔ ∃ c ∈ usedF d (wdN d), o.getD (nxN d s c) 0 = b)
  eq : ∀ s t, s < d.tag.length → t < d.tag.length → ((tr s).2 = (tr t).2 ↔ ∀ c ∈ usedF d (wdN d), (o.getD (nxN d s c) 0 = b ↔ o.getD (nxN d t c) 0 = b))
theorem SplB.hop {d : DfaD} (hf : DfaFine d) {o o' wk wk0 wk' : List Nat} {b : Nat} {xs : List Nat} {tr : Nat → Tr} (h : SplB d o b xs tr) (hw : ∀ c ∈ wk, c ≠ b → c ∈ wk0) (hS : Split d.tag.length (fun s => o.getD s 0) (fun s => o'.getD s 0) (· ∈ wk0) (· ∈ wk') ((List.range (kindsF o tr xs).length).map (grpJ o tr xs)))
    (hH : Hop d.tag.length (· ∈ usedF d (wdN d)) (nxN d) (fun s => o.getD s 0) (· ∈ wk)) : Hop d.tag.length (· ∈ usedF d (wdN d)) (nxN d) (fun s => o'.getD s 0) (· ∈ wk') := by
  refine hH.cut (B := b) (tr := fun s => (tr s).2) (fun s k hs hk => (hf.nx hs (usedF_mem.1 hk).1).2) (fun s t hs ht e => ?_) (fun s t hs ht e k hk => (h.eq s t hs ht).1 e k hk) hS.num (fun c hc hne => hS.up c (hw c hc hne))
  obtain ⟨e1, e2⟩ := (hS.iff s t hs ht).1 e
  refine ⟨e1, ?_⟩
  obtain ⟨g1, g2⟩ := groups_same.1 e2
  by_cases hx : s ∈ xs
  · have h2 : (kindF o tr s).2 = (kindF o tr t).2 := by rw [g2 hx]
    exact h2
  · have hy : t ∉ xs := fun k => hx (g1.2 k)
    refine (h.eq s t hs ht).2 fun c hc => ⟨fun k => absurd ((h.mem s hs).2 ⟨c, hc, k⟩) hx, fun k => absurd ((h.mem t ht).2 ⟨c, hc, k⟩) hy⟩
theorem SplB.alike {d : DfaD} (hf : DfaFine d) {o o' wk0 wk' : List Nat} {b : Nat} {xs : List Nat} {tr : Nat → Tr} (h : SplB d o b xs tr) (hS : Split d.tag.length (fun s => o.getD s 0) (fun s => o'.getD s 0) (· ∈ wk0) (· ∈ wk') ((List.range (kindsF o tr xs).length).map (grpJ o tr xs)))
    (hA : ∀ s t, s < d.tag.length → t < d.tag.length → Alike (stN d) (anN d) s t → o.getD s 0 = o.getD t 0) : ∀ s t, s < d.tag.length → t < d.tag.length → Alike (stN d) (anN d) s t → o'.getD s 0 = o'.getD t 0 := by
  intro s t hs ht al
  have hc : ∀ c ∈ usedF d (wdN d), o.getD (nxN d s c) 0 = o.getD (nxN d t c) 0 := fun c hc => by
    obtain ⟨ch, hch, e⟩ := used_byte hf hc
    have := al.step hch
    unfold stN at this
    rw [e] at this
    exact hA _ _ (hf.nx hs (usedF_mem.1 hc).1).2 (hf.nx ht (usedF_mem.1 hc).1).2 this
  have e1 := hA s t hs ht al
  refine (hS.iff s t hs ht).2 ⟨e1, groups_same.2 ⟨?_, fun _ => ?_⟩⟩
  · rw [h.mem s hs, h.mem t ht]
    constructor
    · rintro ⟨c, k1, k2⟩; exact ⟨c, k1, (hc c k1).symm.trans k2⟩
    · rintro ⟨c, k1, k2⟩; exact ⟨c, k1, (hc c k1).trans k2⟩
  · have e2 := (h.eq s t hs ht).2 fun c k => by rw [hc c k]
    unfold kindF
    rw [e1, e2]
/-- Nothing is left to split by. -/
theorem part_done {d : DfaD} (hf : DfaFine d) {o : List Nat} (hH : Hop d.tag.length (· ∈ usedF d (wdN d)) (nxN d) (fun s => o.getD s 0) (· ∈ ([] : List Nat))) (han : ∀ s t, s < d.tag.length → t < d.tag.length → o.getD s 0 = o.getD t 0 → anN d s = anN d t) {s t : Nat} (hs : s < d.tag.length) (ht : t < d.tag.length) (e : o.getD s 0 = o.getD t 0) : Alike (stN d) (anN d) s t :=
  hop_done (cls := clN d) hH (fun b hb => by cases hb) (fun _ _ => rfl) (fun c hc => by
    refine usedF_mem.2 ⟨(hf.clc hc).2, ?_⟩
    rw [← (hf.clc hc).1, List.getD_eq_getElem?_getD, List.getElem?_eq_getElem (by have := hf.cl; omega)]
    exact List.getElem_mem _) (fun s k hs hk => (hf.nx hs (usedF_mem.1 hk).1).2) han hs ht e
end Go.Proofs.Ytgbdlgogccgciaa
