import Derived.BigQuiet
import Derived.OrdersIn
import Derived.RangeFuncCalls
namespace Go.Proofs.YtgbdlgogccgciaaGreatDoor
open Go

section
variable {P : Program} {ops : Array Oper} {md : Region.Mode} {C : World → Prop}

/-- Whatever order is picked of all operations but the n-th, which comes up last. -/
def wpAnyL (P : Program) (md : Region.Mode) (ops : Array Oper) (C : World → Prop) (n : Nat) (Q : Act → Prop) : Nat → Array Bool → Act → Prop
  | 0, listed, a => Region.ready md ops listed = [n] ∧ Region.ready md ops (listed.setIfInBounds n true) = [] ∧ Q a
  | fuel + 1, listed, a => Region.ready md ops listed ≠ [] ∧ ∀ i ∈ Region.ready md ops listed, qOp P ops C i (wpAnyL P md ops C n Q fuel (listed.setIfInBounds i true)) a

theorem wpAny_of_last {Q : Act → Prop} {Q' : Exit → Act → World → Prop} {n : Nat} (hQ : ∀ a w, C w → Q a → wpOp P ops Q' n (fun a w => Q' .normal a w) a w) :
    ∀ (fuel : Nat) (listed : Array Bool) (a : Act) (w : World), C w → wpAnyL P md ops C n Q fuel listed a → wpAny P md ops Q' (fuel + 1) listed a w
  | 0, listed, a, w, hw, h => ⟨fun h0 => by rw [h.1] at h0; (cases h0), fun i hi => by
      rw [h.1] at hi
      have e : i = n := by simpa using hi
      subst e
      exact wpOp_mono (fun a w h' => ⟨h.2.1, h'⟩) (hQ _ _ hw h.2.2)⟩
  | fuel + 1, listed, a, w, hw, h => ⟨fun h0 => absurd h0 h.1, fun i hi => wpOp_of_qOp hw (fun a' w' hw' => wpAny_of_last hQ fuel _ a' w' hw') (h.2 i hi)⟩

theorem wpAnyL_first {Q : Act → Prop} {i n : Nat} {oi : Oper} {v : Value} (hi : ops[i]? = some oi) (hlast : ∀ listed : Array Bool, n ∈ Region.ready md ops listed → listed.getD i true = true) (hsel : ∀ (j : Nat) (o : Oper) cs b, ops[j]? = some o → o.op ≠ .select cs b) :
    ∀ (fuel : Nat) (listed : Array Bool) (a : Act),
      (∀ j oj, ops[j]? = some oj → j ≠ i → listed.getD j true = false → (∀ e ∈ oj.after, Region.binds md e = true → e.on ≠ i) → oi.apart ops oj = true) →
      i ∈ Region.ready md ops listed → YieldsIn P ops C oi v a →
      wpAnyL P md ops C n Q fuel (listed.setIfInBounds i true) (a.put oi.dst v) → wpAnyL P md ops C n Q (fuel + 1) listed a := by
  intro fuel
  induction fuel with
  | zero =>
    intro listed a _ hr hy H
    refine ⟨fun h => (by rw [h] at hr; cases hr), fun j hj => ?_⟩
    by_cases hji : j = i
    · subst hji; exact hy.qOp hi H
    · have := ready_mono hj hji
      rw [H.1] at this
      have e : j = n := by simpa using this
      subst e
      have h1 := hlast _ hj
      rw [(mem_ready.1 hr).1] at h1
      cases h1
  | succ fuel ih =>
    intro listed a hfree hr hy H
    refine ⟨fun h => (by rw [h] at hr; cases hr), fun j hj => ?_⟩
    by_cases hji : j = i
    · subst hji; exact hy.qOp hi H
    · have h1 := H.2 j (ready_mono hj hji)
      obtain ⟨hjun, oj, hoj, hall⟩ := mem_ready.1 hj
      have hnot : ∀ e ∈ oj.after, Region.binds md e = true → e.on ≠ i := fun e he hb heq => by
        have h1 := hall e he hb
        have h0 := (mem_ready.1 hr).1
        rw [heq] at h1
        rcases Nat.lt_or_ge i listed.size with h' | h'
        · simp [h'] at h0 h1; rw [h0] at h1; cases h1
        · simp [Array.getElem?_eq_none h'] at h1
      have h2 := qOp_put hoj (hfree j oj hoj hji hjun hnot) (fun cs b => hsel i oi cs b hi) (fun cs b => hsel j oj cs b hoj) hy h1
      have hfree' : ∀ k ok, ops[k]? = some ok → k ≠ i → (listed.setIfInBounds j true).getD k true = false →
          (∀ e ∈ ok.after, Region.binds md e = true → e.on ≠ i) → oi.apart ops ok = true := fun k ok hk hki hun hno => by
        refine hfree k ok hk hki ?_ hno
        by_cases hjk : j = k
        · subst hjk; exact hjun
        · rw [getD_set_ne true hjk] at hun; exact hun
      refine qOp_mono (fun a' h3 => ih (listed.setIfInBounds j true) a' hfree' (ready_mono hr (Ne.symm hji)) h3.1 ?_) h2
      rw [Array.setIfInBounds_comm _ _ hji]
      exact h3.2

/-- The order of the text serves for all but the n-th. -/
def lexL (md : Region.Mode) (ops : Array Oper) (n : Nat) : Nat → Nat → Array Bool → Bool
  | 0, _, listed => (Region.ready md ops listed == [n]) && (Region.ready md ops (listed.setIfInBounds n true)).isEmpty
  | fuel + 1, k, listed => (Region.ready md ops listed).contains k && Region.free md ops listed k && lexL md ops n fuel (k + 1) (listed.setIfInBounds k true)

/-- The n-th waits for the i-th. -/
def waitsB (md : Region.Mode) (ops : Array Oper) (n i : Nat) : Bool :=
  match ops[n]? with
  | some o => o.after.any fun e => Region.binds md e && e.on == i
  | none => false

def lastB (md : Region.Mode) (ops : Array Oper) (n : Nat) : Bool :=
  Region.noSelect ops && (List.range n).all (waitsB md ops n) && lexL md ops n n 0 (Array.replicate ops.size false)

theorem waits_spec {n i : Nat} (h : waitsB md ops n i = true) (listed : Array Bool) (hr : n ∈ Region.ready md ops listed) : listed.getD i true = true := by
  obtain ⟨_, o, ho, hall⟩ := mem_ready.1 hr
  unfold waitsB at h
  rw [ho] at h
  simp only [Array.any_eq_true, Bool.and_eq_true, beq_iff_eq] at h
  obtain ⟨k, hk, hb, he⟩ := h
  have h1 := hall _ (Array.getElem_mem hk) hb
  rw [he] at h1
  rcases Nat.lt_or_ge i listed.size with h' | h'
  · simp [h'] at h1 ⊢; exact h1
  · simp [Array.getElem?_eq_none h'] at h1

theorem wpAnyL_lex {Q : Act → Prop} {n : Nat} (hs : Region.noSelect ops = true) (hn : ∀ i, i < n → waitsB md ops n i = true) : ∀ (l : List Oper) (k : Nat) (listed : Array Bool) (a : Act), (∀ j, j < l.length → l[j]? = ops[k + j]?) → k + l.length = n →
    lexL md ops n l.length k listed = true → wpQuiet P ops C Q l a → wpAnyL P md ops C n Q l.length listed a
  | [], _, _, _, _, _, hB, h => by
    simp only [List.length_nil, lexL, Bool.and_eq_true, beq_iff_eq, List.isEmpty_iff] at hB
    exact ⟨hB.1, hB.2, h⟩
  | o :: l, k, listed, a, hl, hkn, hB, h => by
    have h0 : ops[k]? = some o := by simpa using (hl 0 (by simp)).symm
    simp only [List.length_cons, lexL, Bool.and_eq_true] at hB
    obtain ⟨⟨hr, hf⟩, hB'⟩ := hB
    have hst : qOp P ops C k (wpQuiet P ops C Q l) a := by unfold qOp; simp only [h0]; exact h
    obtain ⟨v, hy, hK⟩ := yieldsIn_of_qOp h0 hst
    simp only [List.length_cons] at hkn
    exact wpAnyL_first h0 (waits_spec (hn k (by omega))) (Region.noSelect_spec hs) l.length listed a (Region.free_spec h0 hf) (by simpa using hr) hy
      (wpAnyL_lex hs hn l (k + 1) _ _ (fun j hj => by have := hl (j + 1) (by simp; omega); simpa [Nat.add_assoc, Nat.add_comm 1 j] using this) (by omega) hB' hK)

/-- A region whose operations read, but for the last, which waits for all others. -/
theorem wp_region_last {id : Nat} {Q : Exit → Act → World → Prop} {a : Act} {w : World} {all l : List Oper} {o : Oper} (hm : P.follows .mixedOrders = true) (hB : lastB .any all.toArray l.length = true) (hall : all = l ++ [o]) (hg : o.guard = none)
    (h : wpQuiet P all.toArray (fun w' => ∃ n, w' = w.drewN n) (fun a' => ∀ w', (∃ n, w' = w.drewN n) → ∀ K : Act → World → Prop, (∀ a w, Q .normal a w → K a w) → o.wp P a' w' K Q) l a) : (Code.region id all.toArray true).wp P Q a w := by
  simp only [lastB, Bool.and_eq_true, List.all_eq_true, List.mem_range] at hB
  have hsz : all.toArray.size = l.length + 1 := by simp [hall]
  have hlen : all.toArray[l.length]? = some o := by simp [hall]
  refine wp_region_any hm ?_
  rw [hsz]
  refine wpAny_of_last (C := fun w' => ∃ n, w' = w.drewN n) (n := l.length) (Q := fun a' => ∀ w', (∃ n, w' = w.drewN n) → ∀ K : Act → World → Prop, (∀ a w, Q .normal a w → K a w) → o.wp P a' w' K Q) ?_ l.length _ a _ ⟨1, rfl⟩ ?_
  · intro a' w' hw' hq
    unfold wpOp
    rw [hlen]
    simp only [Region.wanted, hg]
    exact .inl (hq w' hw' _ fun _ _ h => h)
  · rw [← hsz]
    exact wpAnyL_lex hB.1.1 hB.1.2 l 0 _ a (fun j hj => by simp [hall, List.getElem?_append_left hj]) (by simp) hB.2 h

/-- The same, the last operation by its number. -/
theorem wp_region_lastN (n : Nat) {id : Nat} {Q : Exit → Act → World → Prop} {a : Act} {w : World} {all : List Oper} {o : Oper} (hm : P.follows .mixedOrders = true) (hB : lastB .any all.toArray n = true) (hl : all.length = n + 1) (ho : all[n]? = some o) (hg : o.guard = none)
    (h : ∀ l, l = all.take n → wpQuiet P all.toArray (fun w' => ∃ n, w' = w.drewN n) (fun a' => ∀ w', (∃ n, w' = w.drewN n) → ∀ K : Act → World → Prop, (∀ a w, Q .normal a w → K a w) → o.wp P a' w' K Q) l a) : (Code.region id all.toArray true).wp P Q a w := by
  refine wp_region_last (l := all.take n) (o := o) hm (by rw [List.length_take, hl, Nat.min_eq_left (by omega)]; exact hB) ?_ hg (h _ rfl)
  apply List.ext_getElem?
  intro j
  by_cases hj : j < n
  · rw [List.getElem?_append_left (by rw [List.length_take]; omega), List.getElem?_take, if_pos hj]
  · rw [List.getElem?_append_right (by rw [List.length_take]; omega), List.length_take, hl, Nat.min_eq_left (by omega)]
    by_cases e : j = n
    · subst e; simp [ho]
    · rw [List.getElem?_eq_none (by omega), List.getElem?_eq_none (by simp; omega)]
end
end Go.Proofs.YtgbdlgogccgciaaGreatDoor
namespace Go.Proofs.YtgbdlgogccgciaaGreatDoor
open Go

section
variable {P : Program} {ops : Array Oper} {md : Region.Mode} {C : World → Prop}
/-- What is listed waits for nothing that isn't. -/
def ClosedL (md : Region.Mode) (ops : Array Oper) (listed : Array Bool) : Prop := ∀ (k : Nat) (o : Oper), ops[k]? = some o → listed.getD k true = true → ∀ e ∈ o.after, Region.binds md e = true → listed.getD e.on true = true
theorem getD_set_true {l : Array Bool} {i j : Nat} (h : l.getD i true = true) : (l.setIfInBounds j true).getD i true = true := by
  by_cases e : j = i
  · subst e
    by_cases hj : j < l.size
    · simp [hj]
    · simp [hj]
  · rw [getD_set_ne true e]; exact h
theorem ClosedL.start (md : Region.Mode) (ops : Array Oper) : ClosedL md ops (Array.replicate ops.size false) := fun k o hk h => by
  have hlt := (Array.getElem?_eq_some_iff.1 hk).1
  simp [hlt] at h
theorem ready_on {listed : Array Bool} {j : Nat} {o : Oper} (ho : ops[j]? = some o) (hj : j ∈ Region.ready md ops listed) : ∀ e ∈ o.after, Region.binds md e = true → listed.getD e.on true = true := fun e he hb => by
  obtain ⟨_, o', ho', hall⟩ := mem_ready.1 hj
  rw [ho] at ho'
  cases ho'
  have h1 := hall e he hb
  rcases Nat.lt_or_ge e.on listed.size with h' | h'
  · simp [h'] at h1 ⊢; exact h1
  · simp [Array.getElem?_eq_none h'] at h1
theorem ClosedL.set {listed : Array Bool} (h : ClosedL md ops listed) {j : Nat} (hj : j ∈ Region.ready md ops listed) : ClosedL md ops (listed.setIfInBounds j true) := fun k o hk hl e he hb => by
  refine getD_set_true ?_
  by_cases e1 : j = k
  · subst e1; exact ready_on hk hj e he hb
  · rw [getD_set_ne true e1] at hl; exact h k o hk hl e he hb
def waits2 (md : Region.Mode) (ops : Array Oper) (n i : Nat) : Bool := waitsB md ops n i || (List.range n).any fun k => waitsB md ops n k && waitsB md ops k i
theorem waits2_spec {n i : Nat} (h : waits2 md ops n i = true) (listed : Array Bool) (hc : ClosedL md ops listed) (hr : n ∈ Region.ready md ops listed) : listed.getD i true = true := by
  unfold waits2 at h
  rw [Bool.or_eq_true] at h
  rcases h with h1 | h1
  · exact waits_spec h1 listed hr
  · obtain ⟨k, _, hk⟩ := List.any_eq_true.1 h1
    rw [Bool.and_eq_true] at hk
    obtain ⟨h2, h3⟩ := hk
    have hl := waits_spec h2 listed hr
    unfold waitsB at h3
    split at h3
    · rename_i o ho
      simp only [Array.any_eq_true, Bool.and_eq_true, beq_iff_eq] at h3
      obtain ⟨q, hq, hb, he⟩ := h3
      rw [← he]
      exact hc k o ho hl _ (Array.getElem_mem hq) hb
    · cases h3
def lastC (md : Region.Mode) (ops : Array Oper) (n : Nat) : Bool :=
  Region.noSelect ops && (List.range n).all (waits2 md ops n) && lexL md ops n n 0 (Array.replicate ops.size false)
theorem wpAnyL_firstC {Q : Act → Prop} {i n : Nat} {oi : Oper} {v : Value} (hi : ops[i]? = some oi) (hlast : ∀ listed : Array Bool, ClosedL md ops listed → n ∈ Region.ready md ops listed → listed.getD i true = true) (hsel : ∀ (j : Nat) (o : Oper) cs b, ops[j]? = some o → o.op ≠ .select cs b) :
    ∀ (fuel : Nat) (listed : Array Bool) (a : Act), ClosedL md ops listed →
      (∀ j oj, ops[j]? = some oj → j ≠ i → listed.getD j true = false → (∀ e ∈ oj.after, Region.binds md e = true → e.on ≠ i) → oi.apart ops oj = true) →
      i ∈ Region.ready md ops listed → YieldsIn P ops C oi v a →
      wpAnyL P md ops C n Q fuel (listed.setIfInBounds i true) (a.put oi.dst v) → wpAnyL P md ops C n Q (fuel + 1) listed a := by
  intro fuel
  induction fuel with
  | zero =>
    intro listed a hcl _ hr hy H
    refine ⟨fun h => (by rw [h] at hr; cases hr), fun j hj => ?_⟩
    by_cases hji : j = i
    · subst hji; exact hy.qOp hi H
    · have := ready_mono hj hji
      rw [H.1] at this
      have e : j = n := by simpa using this
      subst e
      have h1 := hlast _ hcl hj
      rw [(mem_ready.1 hr).1] at h1
      cases h1
  | succ fuel ih =>
    intro listed a hcl hfree hr hy H
    refine ⟨fun h => (by rw [h] at hr; cases hr), fun j hj => ?_⟩
    by_cases hji : j = i
    · subst hji; exact hy.qOp hi H
    · have h1 := H.2 j (ready_mono hj hji)
      obtain ⟨hjun, oj, hoj, hall⟩ := mem_ready.1 hj
      have hnot : ∀ e ∈ oj.after, Region.binds md e = true → e.on ≠ i := fun e he hb heq => by
        have h1 := hall e he hb
        have h0 := (mem_ready.1 hr).1
        rw [heq] at h1
        rcases Nat.lt_or_ge i listed.size with h' | h'
        · simp [h'] at h0 h1; rw [h0] at h1; cases h1
        · simp [Array.getElem?_eq_none h'] at h1
      have h2 := qOp_put hoj (hfree j oj hoj hji hjun hnot) (fun cs b => hsel i oi cs b hi) (fun cs b => hsel j oj cs b hoj) hy h1
      have hfree' : ∀ k ok, ops[k]? = some ok → k ≠ i → (listed.setIfInBounds j true).getD k true = false →
          (∀ e ∈ ok.after, Region.binds md e = true → e.on ≠ i) → oi.apart ops ok = true := fun k ok hk hki hun hno => by
        refine hfree k ok hk hki ?_ hno
        by_cases hjk : j = k
        · subst hjk; exact hjun
        · rw [getD_set_ne true hjk] at hun; exact hun
      refine qOp_mono (fun a' h3 => ih (listed.setIfInBounds j true) a' (hcl.set hj) hfree' (ready_mono hr (Ne.symm hji)) h3.1 ?_) h2
      rw [Array.setIfInBounds_comm _ _ hji]
      exact h3.2


theorem wpAnyL_lexC {Q : Act → Prop} {n : Nat} (hs : Region.noSelect ops = true) (hn : ∀ i, i < n → waits2 md ops n i = true) : ∀ (l : List Oper) (k : Nat) (listed : Array Bool) (a : Act), ClosedL md ops listed → (∀ j, j < l.length → l[j]? = ops[k + j]?) → k + l.length = n →
    lexL md ops n l.length k listed = true → wpQuiet P ops C Q l a → wpAnyL P md ops C n Q l.length listed a
  | [], _, _, _, _, _, _, hB, h => by
    simp only [List.length_nil, lexL, Bool.and_eq_true, beq_iff_eq, List.isEmpty_iff] at hB
    exact ⟨hB.1, hB.2, h⟩
  | o :: l, k, listed, a, hcl, hl, hkn, hB, h => by
    have h0 : ops[k]? = some o := by simpa using (hl 0 (by simp)).symm
    simp only [List.length_cons, lexL, Bool.and_eq_true] at hB
    obtain ⟨⟨hr, hf⟩, hB'⟩ := hB
    have hst : qOp P ops C k (wpQuiet P ops C Q l) a := by unfold qOp; simp only [h0]; exact h
    obtain ⟨v, hy, hK⟩ := yieldsIn_of_qOp h0 hst
    simp only [List.length_cons] at hkn
    have hr' : k ∈ Region.ready md ops listed := by simpa using hr
    exact wpAnyL_firstC h0 (fun L hc hn' => waits2_spec (hn k (by omega)) L hc hn') (Region.noSelect_spec hs) l.length listed a hcl (Region.free_spec h0 hf) hr' hy
      (wpAnyL_lexC hs hn l (k + 1) _ _ (hcl.set hr') (fun j hj => by have := hl (j + 1) (by simp; omega); simpa [Nat.add_assoc, Nat.add_comm 1 j] using this) (by omega) hB' hK)
theorem wp_region_lastC {id : Nat} {Q : Exit → Act → World → Prop} {a : Act} {w : World} {all l : List Oper} {o : Oper} (hm : P.follows .mixedOrders = true) (hB : lastC .any all.toArray l.length = true) (hall : all = l ++ [o]) (hg : o.guard = none)
    (h : wpQuiet P all.toArray (fun w' => ∃ n, w' = w.drewN n) (fun a' => ∀ w', (∃ n, w' = w.drewN n) → ∀ K : Act → World → Prop, (∀ a w, Q .normal a w → K a w) → o.wp P a' w' K Q) l a) : (Code.region id all.toArray true).wp P Q a w := by
  simp only [lastC, Bool.and_eq_true, List.all_eq_true, List.mem_range] at hB
  have hsz : all.toArray.size = l.length + 1 := by simp [hall]
  have hlen : all.toArray[l.length]? = some o := by simp [hall]
  refine wp_region_any hm ?_
  rw [hsz]
  refine wpAny_of_last (C := fun w' => ∃ n, w' = w.drewN n) (n := l.length) (Q := fun a' => ∀ w', (∃ n, w' = w.drewN n) → ∀ K : Act → World → Prop, (∀ a w, Q .normal a w → K a w) → o.wp P a' w' K Q) ?_ l.length _ a _ ⟨1, rfl⟩ ?_
  · intro a' w' hw' hq
    unfold wpOp
    rw [hlen]
    simp only [Region.wanted, hg]
    exact .inl (hq w' hw' _ fun _ _ h => h)
  · rw [← hsz]
    exact wpAnyL_lexC hB.1.1 hB.1.2 l 0 _ a (ClosedL.start _ _) (fun j hj => by simp [hall, List.getElem?_append_left hj]) (by simp) hB.2 h
/-- The same, the last operation by its number; it may wait for the others through others. -/
theorem wp_region_lastM (n : Nat) {id : Nat} {Q : Exit → Act → World → Prop} {a : Act} {w : World} {all : List Oper} {o : Oper} (hm : P.follows .mixedOrders = true) (hB : lastC .any all.toArray n = true) (hl : all.length = n + 1) (ho : all[n]? = some o) (hg : o.guard = none)
    (h : ∀ l, l = all.take n → wpQuiet P all.toArray (fun w' => ∃ n, w' = w.drewN n) (fun a' => ∀ w', (∃ n, w' = w.drewN n) → ∀ K : Act → World → Prop, (∀ a w, Q .normal a w → K a w) → o.wp P a' w' K Q) l a) : (Code.region id all.toArray true).wp P Q a w := by
  refine wp_region_lastC (l := all.take n) (o := o) hm (by rw [List.length_take, hl, Nat.min_eq_left (by omega)]; exact hB) ?_ hg (h _ rfl)
  apply List.ext_getElem?
  intro j
  by_cases hj : j < n
  · rw [List.getElem?_append_left (by rw [List.length_take]; omega), List.getElem?_take, if_pos hj]
  · rw [List.getElem?_append_right (by rw [List.length_take]; omega), List.length_take, hl, Nat.min_eq_left (by omega)]
    by_cases e : j = n
    · subst e; simp [ho]
    · rw [List.getElem?_eq_none (by omega), List.getElem?_eq_none (by simp; omega)]
end
end Go.Proofs.YtgbdlgogccgciaaGreatDoor
namespace Go.Proofs.YtgbdlgogccgciaaGreatDoor
open Go

section
variable {P : Program} {ops : Array Oper} {md : Region.Mode} {C : World → Prop}
/-- The last operations come up one after another, from the k-th on. -/
def forcedB (md : Region.Mode) (ops : Array Oper) : Nat → Nat → Array Bool → Bool
  | 0, _, listed => (Region.ready md ops listed).isEmpty
  | f + 1, k, listed => (Region.ready md ops listed == [k]) && forcedB md ops f (k + 1) (listed.setIfInBounds k true)
theorem forced_ready {f k : Nat} {listed : Array Bool} (h : forcedB md ops f k listed = true) : ∀ j ∈ Region.ready md ops listed, j = k ∧ 0 < f := fun j hj => by
  cases f with
  | zero =>
    simp only [forcedB, List.isEmpty_iff] at h
    rw [h] at hj
    cases hj
  | succ f =>
    simp only [forcedB, Bool.and_eq_true, beq_iff_eq] at h
    rw [h.1] at hj
    exact ⟨by simpa using hj, by omega⟩
/-- Such a tail is a list. -/
theorem wpAny_forced {Q : Exit → Act → World → Prop} : ∀ (l : List Oper) (k : Nat) (listed : Array Bool) (a : Act) (w : World), (∀ j, j < l.length → l[j]? = ops[k + j]?) → forcedB md ops l.length k listed = true → wpList P ops Q l a w → wpAny P md ops Q l.length listed a w
  | [], _, _, _, _, _, hB, h => by
    simp only [List.length_nil, forcedB, List.isEmpty_iff] at hB
    exact ⟨hB, h⟩
  | o :: l, k, listed, a, w, hl, hB, h => by
    have h0 : ops[k]? = some o := by simpa using (hl 0 (by simp)).symm
    simp only [List.length_cons, forcedB, Bool.and_eq_true, beq_iff_eq] at hB
    have ih := fun a w h => wpAny_forced (Q := Q) l (k + 1) (listed.setIfInBounds k true) a w (fun j hj => by have := hl (j + 1) (by simp; omega); simpa [Nat.add_assoc, Nat.add_comm 1 j] using this) hB.2 h
    refine ⟨fun e => absurd e (by rw [hB.1]; simp), fun i hi => ?_⟩
    rw [hB.1] at hi
    have e : i = k := by simpa using hi
    subst e
    unfold wpOp
    simp only [h0]
    unfold wpList at h
    by_cases hw : Region.wanted o (yielded ops a.tmps) = true
    · rw [if_pos hw] at h ⊢
      rcases h with h | h
      · exact .inl (Oper.wp_mono (fun a w h => ih a w h) h)
      · exact .inr h
    · rw [if_neg hw] at h ⊢
      exact ih _ _ h
/-- Whatever order is picked of the first operations; the tail behind them. -/
def wpAnyT (P : Program) (md : Region.Mode) (ops : Array Oper) (C : World → Prop) (n : Nat) (Q : Act → Prop) : Nat → Array Bool → Act → Prop
  | 0, listed, a => forcedB md ops (ops.size - n) n listed = true ∧ Q a
  | fuel + 1, listed, a => Region.ready md ops listed ≠ [] ∧ ∀ i ∈ Region.ready md ops listed, qOp P ops C i (wpAnyT P md ops C n Q fuel (listed.setIfInBounds i true)) a
theorem wpAny_of_tail {Q : Act → Prop} {Q' : Exit → Act → World → Prop} {n : Nat} {l : List Oper} (hl : ∀ j, j < l.length → l[j]? = ops[n + j]?) (hsz : ops.size - n = l.length) (hQ : ∀ a w, C w → Q a → wpList P ops Q' l a w) :
    ∀ (fuel : Nat) (listed : Array Bool) (a : Act) (w : World), C w → wpAnyT P md ops C n Q fuel listed a → wpAny P md ops Q' (fuel + l.length) listed a w
  | 0, listed, a, w, hw, h => by
    rw [Nat.zero_add]
    exact wpAny_forced l n listed a w hl (by rw [← hsz]; exact h.1) (hQ a w hw h.2)
  | fuel + 1, listed, a, w, hw, h => by
    rw [show fuel + 1 + l.length = fuel + l.length + 1 by omega]
    exact ⟨fun h0 => absurd h0 h.1, fun i hi => wpOp_of_qOp hw (fun a' w' hw' => wpAny_of_tail hl hsz hQ fuel _ a' w' hw') (h.2 i hi)⟩
theorem wpAnyT_first {Q : Act → Prop} {i n : Nat} {oi : Oper} {v : Value} (hi : ops[i]? = some oi) (hlast : ∀ listed : Array Bool, ClosedL md ops listed → n ∈ Region.ready md ops listed → listed.getD i true = true) (hsel : ∀ (j : Nat) (o : Oper) cs b, ops[j]? = some o → o.op ≠ .select cs b) :
    ∀ (fuel : Nat) (listed : Array Bool) (a : Act), ClosedL md ops listed →
      (∀ j oj, ops[j]? = some oj → j ≠ i → listed.getD j true = false → (∀ e ∈ oj.after, Region.binds md e = true → e.on ≠ i) → oi.apart ops oj = true) →
      i ∈ Region.ready md ops listed → YieldsIn P ops C oi v a →
      wpAnyT P md ops C n Q fuel (listed.setIfInBounds i true) (a.put oi.dst v) → wpAnyT P md ops C n Q (fuel + 1) listed a := by
  intro fuel
  induction fuel with
  | zero =>
    intro listed a hcl _ hr hy H
    refine ⟨fun h => (by rw [h] at hr; cases hr), fun j hj => ?_⟩
    by_cases hji : j = i
    · subst hji; exact hy.qOp hi H
    · have h2 := (forced_ready H.1 j (ready_mono hj hji)).1
      subst h2
      have h1 := hlast _ hcl hj
      rw [(mem_ready.1 hr).1] at h1
      cases h1
  | succ fuel ih =>
    intro listed a hcl hfree hr hy H
    refine ⟨fun h => (by rw [h] at hr; cases hr), fun j hj => ?_⟩
    by_cases hji : j = i
    · subst hji; exact hy.qOp hi H
    · have h1 := H.2 j (ready_mono hj hji)
      obtain ⟨hjun, oj, hoj, hall⟩ := mem_ready.1 hj
      have hnot : ∀ e ∈ oj.after, Region.binds md e = true → e.on ≠ i := fun e he hb heq => by
        have h1 := hall e he hb
        have h0 := (mem_ready.1 hr).1
        rw [heq] at h1
        rcases Nat.lt_or_ge i listed.size with h' | h'
        · simp [h'] at h0 h1; rw [h0] at h1; cases h1
        · simp [Array.getElem?_eq_none h'] at h1
      have h2 := qOp_put hoj (hfree j oj hoj hji hjun hnot) (fun cs b => hsel i oi cs b hi) (fun cs b => hsel j oj cs b hoj) hy h1
      have hfree' : ∀ k ok, ops[k]? = some ok → k ≠ i → (listed.setIfInBounds j true).getD k true = false →
          (∀ e ∈ ok.after, Region.binds md e = true → e.on ≠ i) → oi.apart ops ok = true := fun k ok hk hki hun hno => by
        refine hfree k ok hk hki ?_ hno
        by_cases hjk : j = k
        · subst hjk; exact hjun
        · rw [getD_set_ne true hjk] at hun; exact hun
      refine qOp_mono (fun a' h3 => ih (listed.setIfInBounds j true) a' (hcl.set hj) hfree' (ready_mono hr (Ne.symm hji)) h3.1 ?_) h2
      rw [Array.setIfInBounds_comm _ _ hji]
      exact h3.2



def waitsF (md : Region.Mode) (ops : Array Oper) : Nat → Nat → Nat → Bool
  | 0, n, i => waitsB md ops n i
  | f + 1, n, i => waitsB md ops n i || (List.range n).any fun k => waitsB md ops n k && waitsF md ops f k i
theorem waitsB_on {n i : Nat} (h : waitsB md ops n i = true) : ∃ o, ops[n]? = some o ∧ ∃ e ∈ o.after, Region.binds md e = true ∧ e.on = i := by
  unfold waitsB at h
  split at h
  · rename_i o ho
    simp only [Array.any_eq_true, Bool.and_eq_true, beq_iff_eq] at h
    obtain ⟨q, hq, hb, he⟩ := h
    exact ⟨o, ho, _, Array.getElem_mem hq, hb, he⟩
  · cases h
theorem waitsF_listed {listed : Array Bool} (hc : ClosedL md ops listed) : ∀ (f n i : Nat), listed.getD n true = true → waitsF md ops f n i = true → listed.getD i true = true
  | 0, n, i, hl, h => by
    obtain ⟨o, ho, e, he, hb, e2⟩ := waitsB_on h
    rw [← e2]
    exact hc n o ho hl e he hb
  | f + 1, n, i, hl, h => by
    unfold waitsF at h
    rw [Bool.or_eq_true] at h
    rcases h with h | h
    · exact waitsF_listed hc 0 n i hl h
    · obtain ⟨k, _, hk⟩ := List.any_eq_true.1 h
      rw [Bool.and_eq_true] at hk
      exact waitsF_listed hc f k i (waitsF_listed hc 0 n k hl hk.1) hk.2
theorem waitsF_spec {f n i : Nat} (h : waitsF md ops f n i = true) (listed : Array Bool) (hc : ClosedL md ops listed) (hr : n ∈ Region.ready md ops listed) : listed.getD i true = true := by
  cases f with
  | zero => exact waits_spec h listed hr
  | succ f =>
    unfold waitsF at h
    rw [Bool.or_eq_true] at h
    rcases h with h | h
    · exact waits_spec h listed hr
    · obtain ⟨k, _, hk⟩ := List.any_eq_true.1 h
      rw [Bool.and_eq_true] at hk
      exact waitsF_listed hc f k i (waits_spec hk.1 listed hr) hk.2
def lexT (md : Region.Mode) (ops : Array Oper) (n : Nat) : Nat → Nat → Array Bool → Bool
  | 0, _, listed => forcedB md ops (ops.size - n) n listed
  | fuel + 1, k, listed => (Region.ready md ops listed).contains k && Region.free md ops listed k && lexT md ops n fuel (k + 1) (listed.setIfInBounds k true)
def preB (md : Region.Mode) (ops : Array Oper) (n : Nat) : Bool :=
  Region.noSelect ops && (List.range n).all (fun i => decide (ops.size ≤ n) || waitsF md ops 6 n i) && lexT md ops n n 0 (Array.replicate ops.size false)
theorem wpAnyT_lex {Q : Act → Prop} {n : Nat} (hs : Region.noSelect ops = true) (hn : ∀ i, i < n → (decide (ops.size ≤ n) || waitsF md ops 6 n i) = true) : ∀ (l : List Oper) (k : Nat) (listed : Array Bool) (a : Act), ClosedL md ops listed → (∀ j, j < l.length → l[j]? = ops[k + j]?) → k + l.length = n →
    lexT md ops n l.length k listed = true → wpQuiet P ops C Q l a → wpAnyT P md ops C n Q l.length listed a
  | [], _, _, _, _, _, _, hB, h => ⟨hB, h⟩
  | o :: l, k, listed, a, hcl, hl, hkn, hB, h => by
    have h0 : ops[k]? = some o := by simpa using (hl 0 (by simp)).symm
    simp only [List.length_cons, lexT, Bool.and_eq_true] at hB
    obtain ⟨⟨hr, hf⟩, hB'⟩ := hB
    have hst : qOp P ops C k (wpQuiet P ops C Q l) a := by unfold qOp; simp only [h0]; exact h
    obtain ⟨v, hy, hK⟩ := yieldsIn_of_qOp h0 hst
    simp only [List.length_cons] at hkn
    have hr' : k ∈ Region.ready md ops listed := by simpa using hr
    exact wpAnyT_first h0 (fun L hc hn' => by
        have h1 := hn k (by omega)
        rw [Bool.or_eq_true] at h1
        rcases h1 with h1 | h1
        · have h2 := of_decide_eq_true h1
          obtain ⟨_, o', ho', _⟩ := mem_ready.1 hn'
          have := (Array.getElem?_eq_some_iff.1 ho').1
          omega
        · exact waitsF_spec h1 L hc hn') (Region.noSelect_spec hs) l.length listed a hcl (Region.free_spec h0 hf) hr' hy
      (wpAnyT_lex hs hn l (k + 1) _ _ (hcl.set hr') (fun j hj => by have := hl (j + 1) (by simp; omega); simpa [Nat.add_assoc, Nat.add_comm 1 j] using this) (by omega) hB' hK)
/-- A region: the first n operations only read (in worlds of C), the others come one after another. -/
theorem wpAny_pre (n : Nat) {Q : Exit → Act → World → Prop} {a : Act} {w : World} {all : List Oper} (C : World → Prop) (hC : C w) (hn : n ≤ all.length) (hB : preB md all.toArray n = true)
    (h : ∀ l, l = all.take n → wpQuiet P all.toArray C (fun a' => ∀ w', C w' → ∀ r, r = all.drop n → wpList P all.toArray Q r a' w') l a) : wpAny P md all.toArray Q all.length (Array.replicate all.length false) a w := by
  simp only [preB, Bool.and_eq_true, List.all_eq_true, List.mem_range] at hB
  have hlt : (all.take n).length = n := by rw [List.length_take]; omega
  have hld : (all.drop n).length = all.length - n := by rw [List.length_drop]
  have h1 := wpAnyT_lex (P := P) (C := C) hB.1.1 hB.1.2 (all.take n) 0 (Array.replicate all.toArray.size false) a (ClosedL.start _ _) (fun j hj => by rw [hlt] at hj; simp [hj]) (by omega) (by rw [hlt]; exact hB.2) (h _ rfl)
  have h2 := wpAny_of_tail (md := md) (C := C) (Q' := Q) (n := n) (l := all.drop n) (fun j _ => by simp [List.getElem?_drop]) (by simp) (fun a w hw hq => hq w hw _ rfl) (all.take n).length _ a w hC h1
  rw [hlt, hld, show n + (all.length - n) = all.length by omega] at h2
  simpa using h2
theorem wp_region_pre (n : Nat) {id : Nat} {Q : Exit → Act → World → Prop} {a : Act} {w : World} {all : List Oper} (C : World → Prop) (hm : P.follows .mixedOrders = true) (hC : C w.drew) (hn : n ≤ all.length) (hB : preB .any all.toArray n = true)
    (h : ∀ l, l = all.take n → wpQuiet P all.toArray C (fun a' => ∀ w', C w' → ∀ r, r = all.drop n → wpList P all.toArray Q r a' w') l a) : (Code.region id all.toArray true).wp P Q a w := by
  refine wp_region_any hm ?_
  have := wpAny_pre (md := .any) n C hC hn hB h
  simpa using this
/- WITHIN A ROUND. -/
theorem oper_round {o : Oper} {a : Act} {w : World} {K : Act → World → Prop} {Q : Exit → Act → World → Prop} (l n : Nat) (hd : ∀ c, o.op ≠ .defer c) (h : o.wp P a w K Q) : o.wpIn (Fence.wide.inRound l) n P a w K Q := by
  refine ⟨fun _ _ => trivial, ?_⟩
  rw [Oper.semAt_eq _ _ _ hd]
  unfold Oper.wp at h
  generalize (execOp a.eval o).run P w = r at *
  have hdp : (Fence.wide.inRound l).depth.isSome = true → 1 ≤ n := fun e => by cases e
  cases r with
  | ok nx w' =>
    cases nx with
    | value v => exact h
    | skip => exact h
    | defer d => exact h
    | enter f args => exact ⟨hdp, CallsIn.inRound l (callsIn_wide.2 h)⟩
    | row row args => exact ⟨hdp, fun c cs _ => by
        obtain ⟨v, w2, h1, h2⟩ := h c cs
        exact ⟨v, w2, h1, stepsIn_wide.2 h2⟩⟩
    | round l f tmps assign body => exact h.elim
    | _ => exact h.elim
  | halt hh w' =>
    cases hh with
    | panic v => exact h
    | _ => exact h.elim
theorem wpAny_round {Q : Exit → Act → World → Prop} (l n : Nat) (hQ : ¬LetsOut Q) (hd : ∀ (j : Nat) (o : Oper), ops[j]? = some o → ∀ c, o.op ≠ .defer c) : ∀ (fuel : Nat) (listed : Array Bool) (a : Act) (w : World), wpAny P md ops Q fuel listed a w → wpAnyIn (Fence.wide.inRound l) n P md ops Q fuel listed a w
  | 0, _, _, _, h => h
  | fuel + 1, listed, a, w, h => by
    refine ⟨h.1, fun i hi => ?_⟩
    have h1 := h.2 i hi
    unfold wpOp at h1
    unfold wpOpIn
    split
    · rename_i e
      simp only [e] at h1
      exact wpAny_round l n hQ hd fuel _ _ _ h1
    · rename_i o e
      simp only [e] at h1
      by_cases hw : Region.wanted o (yielded ops a.tmps) = true
      · rw [if_pos hw] at h1 ⊢
        rcases h1 with h1 | h1
        · exact oper_round l n (hd i o e) (Oper.wp_mono (fun a w h => wpAny_round l n hQ hd fuel _ a w h) h1)
        · exact absurd h1.2 hQ
      · rw [if_neg hw] at h1 ⊢
        exact ⟨fun _ _ => trivial, wpAny_round l n hQ hd fuel _ _ _ h1⟩
def noDefer (ops : List Oper) : Bool := ops.all fun o => match o.op with | .defer _ => false | _ => true
theorem noDefer_spec {all : List Oper} (h : noDefer all = true) (j : Nat) (o : Oper) (ho : all.toArray[j]? = some o) (c : _) : o.op ≠ .defer c := fun e => by
  have hm : o ∈ all := by
    rw [List.getElem?_toArray] at ho
    exact List.mem_of_getElem? ho
  have := List.all_eq_true.1 h o hm
  rw [e] at this
  cases this
theorem wpIn_region_pre (n : Nat) {id l nn : Nat} {Q : Exit → Act → World → Prop} {a : Act} {w : World} {all : List Oper} (C : World → Prop) (hm : P.follows .mixedOrders = true) (hC : C w.drew) (hQ : ¬LetsOut Q) (hn : n ≤ all.length) (hB : preB .any all.toArray n = true) (hD : noDefer all = true)
    (h : ∀ l, l = all.take n → wpQuiet P all.toArray C (fun a' => ∀ w', C w' → ∀ r, r = all.drop n → wpList P all.toArray Q r a' w') l a) : (Code.region id all.toArray true).wpIn (Fence.wide.inRound l) nn P Q a w := by
  refine wpIn_region_any hm ?_
  have := wpAny_round l nn hQ (noDefer_spec hD) _ _ _ _ (wpAny_pre (md := .any) n C hC hn hB h)
  simpa using this
end
end Go.Proofs.YtgbdlgogccgciaaGreatDoor
