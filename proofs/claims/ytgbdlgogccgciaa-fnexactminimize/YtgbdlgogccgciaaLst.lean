import Derived.BigQuiet
namespace Go.Proofs.Ytgbdlgogccgciaa
open Go

section
variable {P : Program} {ops : Array Oper} {md : Region.Mode} {C : World → Prop}

/-- Whatever order is picked of all operations but the n-th, which comes up last. -/
def wpAnyL (P : Program) (md : Region.Mode) (ops : Array Oper) (C : World → Prop) (n : Nat) (Q : Act → Prop) : Nat → Array Bool → Act → Prop
  | 0, listed, a => Region.ready md ops listed = [n] ∧ Region.ready md ops (listed.setIfInBounds n true) = [] ∧ Q a
  | fuel + 1, listed, a => Region.ready md ops listed ≠ [] ∧ ∀ i ∈ Region.ready md ops listed, qOp P ops C i (wpAnyL P md ops C n Q fuel (listed.setIfInBounds i true)) a

theorem wpAny_of_last {Q : Act → Prop} {Q' : Exit → Act → World → Prop} {n : Nat} (hQ : ∀ a w, C w → Q a → wpOp P ops Q' n (fun a w => Q' .normal a w) a w) :
    ∀ (fuel : Nat) (listed : Array Bool) (a : Act) (w : World), C w → wpAnyL P md ops C n Q fuel listed a → wpAny P md ops Q' (fuel + 1) listed a w
  | 0, listed, a, w, hw, h => ⟨fun h0 => by rw [h.1] at h0; (cases h0), fun i hi => by
      rw [h.1] at hi
      have e : i = n := by simpa using hi
      subst e
      exact wpOp_mono (fun a w h' => ⟨h.2.1, h'⟩) (hQ _ _ hw h.2.2)⟩
  | fuel + 1, listed, a, w, hw, h => ⟨fun h0 => absurd h0 h.1, fun i hi => wpOp_of_qOp hw (fun a' w' hw' => wpAny_of_last hQ fuel _ a' w' hw') (h.2 i hi)⟩

theorem wpAnyL_first {Q : Act → Prop} {i n : Nat} {oi : Oper} {v : Value} (hi : ops[i]? = some oi) (hlast : ∀ listed : Array Bool, n ∈ Region.ready md ops listed → listed.getD i true = true) (hsel : ∀ (j : Nat) (o : Oper) cs b, ops[j]? = some o → o.op ≠ .select cs b) :
    ∀ (fuel : Nat) (listed : Array Bool) (a : Act),
      (∀ j oj, ops[j]? = some oj → j ≠ i → listed.getD j true = false → (∀ e ∈ oj.after, Region.binds md e = true → e.on ≠ i) → oi.apart ops oj = true) →
      i ∈ Region.ready md ops listed → YieldsIn P ops C oi v a →
      wpAnyL P md ops C n Q fuel (listed.setIfInBounds i true) (a.put oi.dst v) → wpAnyL P md ops C n Q (fuel + 1) listed a := by
  intro fuel
  induction fuel with
  | zero =>
    intro listed a _ hr hy H
    refine ⟨fun h => (by rw [h] at hr; cases hr), fun j hj => ?_⟩
    by_cases hji : j = i
    · subst hji; exact hy.qOp hi H
    · have := ready_mono hj hji
      rw [H.1] at this
      have e : j = n := by simpa using this
      subst e
      have h1 := hlast _ hj
      rw [(mem_ready.1 hr).1] at h1
      cases h1
  | succ fuel ih =>
    intro listed a hfree hr hy H
    refine ⟨fun h => (by rw [h] at hr; cases hr), fun j hj => ?_⟩
    by_cases hji : j = i
    · subst hji; exact hy.qOp hi H
    · have h1 := H.2 j (ready_mono hj hji)
      obtain ⟨hjun, oj, hoj, hall⟩ := mem_ready.1 hj
      have hnot : ∀ e ∈ oj.after, Region.binds md e = true → e.on ≠ i := fun e he hb heq => by
        have h1 := hall e he hb
        have h0 := (mem_ready.1 hr).1
        rw [heq] at h1
        rcases Nat.lt_or_ge i listed.size with h' | h'
        · simp [h'] at h0 h1; rw [h0] at h1; cases h1
        · simp [Array.getElem?_eq_none h'] at h1
      have h2 := qOp_put hoj (hfree j oj hoj hji hjun hnot) (fun cs b => hsel i oi cs b hi) (fun cs b => hsel j oj cs b hoj) hy h1
      have hfree' : ∀ k ok, ops[k]? = some ok → k ≠ i → (listed.setIfInBounds j true).getD k true = false →
          (∀ e ∈ ok.after, Region.binds md e = true → e.on ≠ i) → oi.apart ops ok = true := fun k ok hk hki hun hno => by
        refine hfree k ok hk hki ?_ hno
        by_cases hjk : j = k
        · subst hjk; exact hjun
        · rw [getD_set_ne true hjk] at hun; exact hun
      refine qOp_mono (fun a' h3 => ih (listed.setIfInBounds j true) a' hfree' (ready_mono hr (Ne.symm hji)) h3.1 ?_) h2
      rw [Array.setIfInBounds_comm _ _ hji]
      exact h3.2

/-- The order of the text serves for all but the n-th. -/
def lexL (md : Region.Mode) (ops : Array Oper) (n : Nat) : Nat → Nat → Array Bool → Bool
  | 0, _, listed => (Region.ready md ops listed == [n]) && (Region.ready md ops (listed.setIfInBounds n true)).isEmpty
  | fuel + 1, k, listed => (Region.ready md ops listed).contains k && Region.free md ops listed k && lexL md ops n fuel (k + 1) (listed.setIfInBounds k true)

/-- The n-th waits for the i-th. -/
def waitsB (md : Region.Mode) (ops : Array Oper) (n i : Nat) : Bool :=
  match ops[n]? with
  | some o => o.after.any fun e => Region.binds md e && e.on == i
  | none => false

def lastB (md : Region.Mode) (ops : Array Oper) (n : Nat) : Bool :=
  Region.noSelect ops && (List.range n).all (waitsB md ops n) && lexL md ops n n 0 (Array.replicate ops.size false)

theorem waits_spec {n i : Nat} (h : waitsB md ops n i = true) (listed : Array Bool) (hr : n ∈ Region.ready md ops listed) : listed.getD i true = true := by
  obtain ⟨_, o, ho, hall⟩ := mem_ready.1 hr
  unfold waitsB at h
  rw [ho] at h
  simp only [Array.any_eq_true, Bool.and_eq_true, beq_iff_eq] at h
  obtain ⟨k, hk, hb, he⟩ := h
  have h1 := hall _ (Array.getElem_mem hk) hb
  rw [he] at h1
  rcases Nat.lt_or_ge i listed.size with h' | h'
  · simp [h'] at h1 ⊢; exact h1
  · simp [Array.getElem?_eq_none h'] at h1

theorem wpAnyL_lex {Q : Act → Prop} {n : Nat} (hs : Region.noSelect ops = true) (hn : ∀ i, i < n → waitsB md ops n i = true) : ∀ (l : List Oper) (k : Nat) (listed : Array Bool) (a : Act), (∀ j, j < l.length → l[j]? = ops[k + j]?) → k + l.length = n →
    lexL md ops n l.length k listed = true → wpQuiet P ops C Q l a → wpAnyL P md ops C n Q l.length listed a
  | [], _, _, _, _, _, hB, h => by
    simp only [List.length_nil, lexL, Bool.and_eq_true, beq_iff_eq, List.isEmpty_iff] at hB
    exact ⟨hB.1, hB.2, h⟩
  | o :: l, k, listed, a, hl, hkn, hB, h => by
    have h0 : ops[k]? = some o := by simpa using (hl 0 (by simp)).symm
    simp only [List.length_cons, lexL, Bool.and_eq_true] at hB
    obtain ⟨⟨hr, hf⟩, hB'⟩ := hB
    have hst : qOp P ops C k (wpQuiet P ops C Q l) a := by unfold qOp; simp only [h0]; exact h
    obtain ⟨v, hy, hK⟩ := yieldsIn_of_qOp h0 hst
    simp only [List.length_cons] at hkn
    exact wpAnyL_first h0 (waits_spec (hn k (by omega))) (Region.noSelect_spec hs) l.length listed a (Region.free_spec h0 hf) (by simpa using hr) hy
      (wpAnyL_lex hs hn l (k + 1) _ _ (fun j hj => by have := hl (j + 1) (by simp; omega); simpa [Nat.add_assoc, Nat.add_comm 1 j] using this) (by omega) hB' hK)

/-- A region whose operations read, but for the last, which waits for all others. -/
theorem wp_region_last {id : Nat} {Q : Exit → Act → World → Prop} {a : Act} {w : World} {all l : List Oper} {o : Oper} (hm : P.follows .mixedOrders = true) (hB : lastB .any all.toArray l.length = true) (hall : all = l ++ [o]) (hg : o.guard = none)
    (h : wpQuiet P all.toArray (fun w' => ∃ n, w' = w.drewN n) (fun a' => ∀ w', (∃ n, w' = w.drewN n) → ∀ K : Act → World → Prop, (∀ a w, Q .normal a w → K a w) → o.wp P a' w' K Q) l a) : (Code.region id all.toArray true).wp P Q a w := by
  simp only [lastB, Bool.and_eq_true, List.all_eq_true, List.mem_range] at hB
  have hsz : all.toArray.size = l.length + 1 := by simp [hall]
  have hlen : all.toArray[l.length]? = some o := by simp [hall]
  refine wp_region_any hm ?_
  rw [hsz]
  refine wpAny_of_last (C := fun w' => ∃ n, w' = w.drewN n) (n := l.length) (Q := fun a' => ∀ w', (∃ n, w' = w.drewN n) → ∀ K : Act → World → Prop, (∀ a w, Q .normal a w → K a w) → o.wp P a' w' K Q) ?_ l.length _ a _ ⟨1, rfl⟩ ?_
  · intro a' w' hw' hq
    unfold wpOp
    rw [hlen]
    simp only [Region.wanted, hg]
    exact .inl (hq w' hw' _ fun _ _ h => h)
  · rw [← hsz]
    exact wpAnyL_lex hB.1.1 hB.1.2 l 0 _ a (fun j hj => by simp [hall, List.getElem?_append_left hj]) (by simp) hB.2 h

/-- The same, the last operation by its number. -/
theorem wp_region_lastN (n : Nat) {id : Nat} {Q : Exit → Act → World → Prop} {a : Act} {w : World} {all : List Oper} {o : Oper} (hm : P.follows .mixedOrders = true) (hB : lastB .any all.toArray n = true) (hl : all.length = n + 1) (ho : all[n]? = some o) (hg : o.guard = none)
    (h : ∀ l, l = all.take n → wpQuiet P all.toArray (fun w' => ∃ n, w' = w.drewN n) (fun a' => ∀ w', (∃ n, w' = w.drewN n) → ∀ K : Act → World → Prop, (∀ a w, Q .normal a w → K a w) → o.wp P a' w' K Q) l a) : (Code.region id all.toArray true).wp P Q a w := by
  refine wp_region_last (l := all.take n) (o := o) hm (by rw [List.length_take, hl, Nat.min_eq_left (by omega)]; exact hB) ?_ hg (h _ rfl)
  apply List.ext_getElem?
  intro j
  by_cases hj : j < n
  · rw [List.getElem?_append_left (by rw [List.length_take]; omega), List.getElem?_take, if_pos hj]
  · rw [List.getElem?_append_right (by rw [List.length_take]; omega), List.length_take, hl, Nat.min_eq_left (by omega)]
    by_cases e : j = n
    · subst e; simp [ho]
    · rw [List.getElem?_eq_none (by omega), List.getElem?_eq_none (by simp; omega)]
end
end Go.Proofs.Ytgbdlgogccgciaa
