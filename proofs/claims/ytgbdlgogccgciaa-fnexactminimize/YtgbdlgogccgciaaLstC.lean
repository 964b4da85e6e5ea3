import Derived.Test.YtgbdlgogccgciaaLst
namespace Go.Proofs.Ytgbdlgogccgciaa
open Go

section
variable {P : Program} {ops : Array Oper} {md : Region.Mode} {C : World → Prop}
/-- What is listed waits for nothing that isn't. -/
def ClosedL (md : Region.Mode) (ops : Array Oper) (listed : Array Bool) : Prop := ∀ (k : Nat) (o : Oper), ops[k]? = some o → listed.getD k true = true → ∀ e ∈ o.after, Region.binds md e = true → listed.getD e.on true = true
theorem getD_set_true {l : Array Bool} {i j : Nat} (h : l.getD i true = true) : (l.setIfInBounds j true).getD i true = true := by
  by_cases e : j = i
  · subst e
    by_cases hj : j < l.size
    · simp [hj]
    · simp [hj]
  · rw [getD_set_ne true e]; exact h
theorem ClosedL.start (md : Region.Mode) (ops : Array Oper) : ClosedL md ops (Array.replicate ops.size false) := fun k o hk h => by
  have hlt := (Array.getElem?_eq_some_iff.1 hk).1
  simp [hlt] at h
theorem ready_on {listed : Array Bool} {j : Nat} {o : Oper} (ho : ops[j]? = some o) (hj : j ∈ Region.ready md ops listed) : ∀ e ∈ o.after, Region.binds md e = true → listed.getD e.on true = true := fun e he hb => by
  obtain ⟨_, o', ho', hall⟩ := mem_ready.1 hj
  rw [ho] at ho'
  cases ho'
  have h1 := hall e he hb
  rcases Nat.lt_or_ge e.on listed.size with h' | h'
  · simp [h'] at h1 ⊢; exact h1
  · simp [Array.getElem?_eq_none h'] at h1
theorem ClosedL.set {listed : Array Bool} (h : ClosedL md ops listed) {j : Nat} (hj : j ∈ Region.ready md ops listed) : ClosedL md ops (listed.setIfInBounds j true) := fun k o hk hl e he hb => by
  refine getD_set_true ?_
  by_cases e1 : j = k
  · subst e1; exact ready_on hk hj e he hb
  · rw [getD_set_ne true e1] at hl; exact h k o hk hl e he hb
def waits2 (md : Region.Mode) (ops : Array Oper) (n i : Nat) : Bool := waitsB md ops n i || (List.range n).any fun k => waitsB md ops n k && waitsB md ops k i
theorem waits2_spec {n i : Nat} (h : waits2 md ops n i = true) (listed : Array Bool) (hc : ClosedL md ops listed) (hr : n ∈ Region.ready md ops listed) : listed.getD i true = true := by
  unfold waits2 at h
  rw [Bool.or_eq_true] at h
  rcases h with h1 | h1
  · exact waits_spec h1 listed hr
  · obtain ⟨k, _, hk⟩ := List.any_eq_true.1 h1
    rw [Bool.and_eq_true] at hk
    obtain ⟨h2, h3⟩ := hk
    have hl := waits_spec h2 listed hr
    unfold waitsB at h3
    split at h3
    · rename_i o ho
      simp only [Array.any_eq_true, Bool.and_eq_true, beq_iff_eq] at h3
      obtain ⟨q, hq, hb, he⟩ := h3
      rw [← he]
      exact hc k o ho hl _ (Array.getElem_mem hq) hb
    · cases h3
def lastC (md : Region.Mode) (ops : Array Oper) (n : Nat) : Bool :=
  Region.noSelect ops && (List.range n).all (waits2 md ops n) && lexL md ops n n 0 (Array.replicate ops.size false)
theorem wpAnyL_firstC {Q : Act → Prop} {i n : Nat} {oi : Oper} {v : Value} (hi : ops[i]? = some oi) (hlast : ∀ listed : Array Bool, ClosedL md ops listed → n ∈ Region.ready md ops listed → listed.getD i true = true) (hsel : ∀ (j : Nat) (o : Oper) cs b, ops[j]? = some o → o.op ≠ .select cs b) :
    ∀ (fuel : Nat) (listed : Array Bool) (a : Act), ClosedL md ops listed →
      (∀ j oj, ops[j]? = some oj → j ≠ i → listed.getD j true = false → (∀ e ∈ oj.after, Region.binds md e = true → e.on ≠ i) → oi.apart ops oj = true) →
      i ∈ Region.ready md ops listed → YieldsIn P ops C oi v a →
      wpAnyL P md ops C n Q fuel (listed.setIfInBounds i true) (a.put oi.dst v) → wpAnyL P md ops C n Q (fuel + 1) listed a := by
  intro fuel
  induction fuel with
  | zero =>
    intro listed a hcl _ hr hy H
    refine ⟨fun h => (by rw [h] at hr; cases hr), fun j hj => ?_⟩
    by_cases hji : j = i
    · subst hji; exact hy.qOp hi H
    · have := ready_mono hj hji
      rw [H.1] at this
      have e : j = n := by simpa using this
      subst e
      have h1 := hlast _ hcl hj
      rw [(mem_ready.1 hr).1] at h1
      cases h1
  | succ fuel ih =>
    intro listed a hcl hfree hr hy H
    refine ⟨fun h => (by rw [h] at hr; cases hr), fun j hj => ?_⟩
    by_cases hji : j = i
    · subst hji; exact hy.qOp hi H
    · have h1 := H.2 j (ready_mono hj hji)
      obtain ⟨hjun, oj, hoj, hall⟩ := mem_ready.1 hj
      have hnot : ∀ e ∈ oj.after, Region.binds md e = true → e.on ≠ i := fun e he hb heq => by
        have h1 := hall e he hb
        have h0 := (mem_ready.1 hr).1
        rw [heq] at h1
        rcases Nat.lt_or_ge i listed.size with h' | h'
        · simp [h'] at h0 h1; rw [h0] at h1; cases h1
        · simp [Array.getElem?_eq_none h'] at h1
      have h2 := qOp_put hoj (hfree j oj hoj hji hjun hnot) (fun cs b => hsel i oi cs b hi) (fun cs b => hsel j oj cs b hoj) hy h1
      have hfree' : ∀ k ok, ops[k]? = some ok → k ≠ i → (listed.setIfInBounds j true).getD k true = false →
          (∀ e ∈ ok.after, Region.binds md e = true → e.on ≠ i) → oi.apart ops ok = true := fun k ok hk hki hun hno => by
        refine hfree k ok hk hki ?_ hno
        by_cases hjk : j = k
        · subst hjk; exact hjun
        · rw [getD_set_ne true hjk] at hun; exact hun
      refine qOp_mono (fun a' h3 => ih (listed.setIfInBounds j true) a' (hcl.set hj) hfree' (ready_mono hr (Ne.symm hji)) h3.1 ?_) h2
      rw [Array.setIfInBounds_comm _ _ hji]
      exact h3.2


theorem wpAnyL_lexC {Q : Act → Prop} {n : Nat} (hs : Region.noSelect ops = true) (hn : ∀ i, i < n → waits2 md ops n i = true) : ∀ (l : List Oper) (k : Nat) (listed : Array Bool) (a : Act), ClosedL md ops listed → (∀ j, j < l.length → l[j]? = ops[k + j]?) → k + l.length = n →
    lexL md ops n l.length k listed = true → wpQuiet P ops C Q l a → wpAnyL P md ops C n Q l.length listed a
  | [], _, _, _, _, _, _, hB, h => by
    simp only [List.length_nil, lexL, Bool.and_eq_true, beq_iff_eq, List.isEmpty_iff] at hB
    exact ⟨hB.1, hB.2, h⟩
  | o :: l, k, listed, a, hcl, hl, hkn, hB, h => by
    have h0 : ops[k]? = some o := by simpa using (hl 0 (by simp)).symm
    simp only [List.length_cons, lexL, Bool.and_eq_true] at hB
    obtain ⟨⟨hr, hf⟩, hB'⟩ := hB
    have hst : qOp P ops C k (wpQuiet P ops C Q l) a := by unfold qOp; simp only [h0]; exact h
    obtain ⟨v, hy, hK⟩ := yieldsIn_of_qOp h0 hst
    simp only [List.length_cons] at hkn
    have hr' : k ∈ Region.ready md ops listed := by simpa using hr
    exact wpAnyL_firstC h0 (fun L hc hn' => waits2_spec (hn k (by omega)) L hc hn') (Region.noSelect_spec hs) l.length listed a hcl (Region.free_spec h0 hf) hr' hy
      (wpAnyL_lexC hs hn l (k + 1) _ _ (hcl.set hr') (fun j hj => by have := hl (j + 1) (by simp; omega); simpa [Nat.add_assoc, Nat.add_comm 1 j] using this) (by omega) hB' hK)
theorem wp_region_lastC {id : Nat} {Q : Exit → Act → World → Prop} {a : Act} {w : World} {all l : List Oper} {o : Oper} (hm : P.follows .mixedOrders = true) (hB : lastC .any all.toArray l.length = true) (hall : all = l ++ [o]) (hg : o.guard = none)
    (h : wpQuiet P all.toArray (fun w' => ∃ n, w' = w.drewN n) (fun a' => ∀ w', (∃ n, w' = w.drewN n) → ∀ K : Act → World → Prop, (∀ a w, Q .normal a w → K a w) → o.wp P a' w' K Q) l a) : (Code.region id all.toArray true).wp P Q a w := by
  simp only [lastC, Bool.and_eq_true, List.all_eq_true, List.mem_range] at hB
  have hsz : all.toArray.size = l.length + 1 := by simp [hall]
  have hlen : all.toArray[l.length]? = some o := by simp [hall]
  refine wp_region_any hm ?_
  rw [hsz]
  refine wpAny_of_last (C := fun w' => ∃ n, w' = w.drewN n) (n := l.length) (Q := fun a' => ∀ w', (∃ n, w' = w.drewN n) → ∀ K : Act → World → Prop, (∀ a w, Q .normal a w → K a w) → o.wp P a' w' K Q) ?_ l.length _ a _ ⟨1, rfl⟩ ?_
  · intro a' w' hw' hq
    unfold wpOp
    rw [hlen]
    simp only [Region.wanted, hg]
    exact .inl (hq w' hw' _ fun _ _ h => h)
  · rw [← hsz]
    exact wpAnyL_lexC hB.1.1 hB.1.2 l 0 _ a (ClosedL.start _ _) (fun j hj => by simp [hall, List.getElem?_append_left hj]) (by simp) hB.2 h
/-- The same, the last operation by its number; it may wait for the others through others. -/
theorem wp_region_lastM (n : Nat) {id : Nat} {Q : Exit → Act → World → Prop} {a : Act} {w : World} {all : List Oper} {o : Oper} (hm : P.follows .mixedOrders = true) (hB : lastC .any all.toArray n = true) (hl : all.length = n + 1) (ho : all[n]? = some o) (hg : o.guard = none)
    (h : ∀ l, l = all.take n → wpQuiet P all.toArray (fun w' => ∃ n, w' = w.drewN n) (fun a' => ∀ w', (∃ n, w' = w.drewN n) → ∀ K : Act → World → Prop, (∀ a w, Q .normal a w → K a w) → o.wp P a' w' K Q) l a) : (Code.region id all.toArray true).wp P Q a w := by
  refine wp_region_lastC (l := all.take n) (o := o) hm (by rw [List.length_take, hl, Nat.min_eq_left (by omega)]; exact hB) ?_ hg (h _ rfl)
  apply List.ext_getElem?
  intro j
  by_cases hj : j < n
  · rw [List.getElem?_append_left (by rw [List.length_take]; omega), List.getElem?_take, if_pos hj]
  · rw [List.getElem?_append_right (by rw [List.length_take]; omega), List.length_take, hl, Nat.min_eq_left (by omega)]
    by_cases e : j = n
    · subst e; simp [ho]
    · rw [List.getElem?_eq_none (by omega), List.getElem?_eq_none (by simp; omega)]
end
end Go.Proofs.Ytgbdlgogccgciaa
