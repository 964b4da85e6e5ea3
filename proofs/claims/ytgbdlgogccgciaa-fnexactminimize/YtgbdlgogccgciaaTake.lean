import Derived.Test.YtgbdlgogccgciaaPre
namespace Go.Proofs.Ytgbdlgogccgciaa
open Go

section
variable {P : Program} {ops : Array Oper} {md : Region.Mode} {C : World → Prop} {Q : Exit → Act → World → Prop}
/-- An operation that reads: one value in every world of C, and the world stays. -/
def YieldsR (P : Program) (ops : Array Oper) (C : World → Prop) (o : Oper) (v : Value) (a : Act) : Prop :=
  (Region.wanted o (yielded ops a.tmps) = true ∧ ∀ w, C w → (execOp a.eval o).run P w = .ok (.value v) w) ∨ (Region.wanted o (yielded ops a.tmps) = false ∧ v = undef)
theorem YieldsR.of_same {o : Oper} {v : Value} {a a' : Act} (hy : YieldsR P ops C o v a) (he : execOp a'.eval o = execOp a.eval o) (hw : Region.wanted o (yielded ops a'.tmps) = Region.wanted o (yielded ops a.tmps)) : YieldsR P ops C o v a' := by
  unfold YieldsR at *
  rw [he, hw]
  exact hy
theorem YieldsR.fire {i : Nat} {o : Oper} {v : Value} {a : Act} (hi : ops[i]? = some o) (hy : YieldsR P ops C o v a) {K : Act → World → Prop} {w : World} (hC : C w) (h : K (a.put o.dst v) w) : wpOp P ops Q i K a w := by
  unfold Go.wpOp
  simp only [hi]
  rcases hy with ⟨hw, hv⟩ | ⟨hw, rfl⟩
  · simp only [hw, if_true, Oper.wp, hv w hC, Oper.upon]; exact .inl h
  · simp only [hw, Bool.false_eq_true, if_false]; exact h
/-- What has been read already is not touched by another operation. -/
theorem wpOp_putR {j : Nat} {oi oj : Oper} {v : Value} (hj : ops[j]? = some oj) (hap : oi.apart ops oj = true) (hsi : ∀ cs b, oi.op ≠ .select cs b) (hsj : ∀ cs b, oj.op ≠ .select cs b)
    (hQ : ∀ c a w, Q (.panic c) (a.put oi.dst v) w → Q (.panic c) a w) {K : Act → World → Prop} {a : Act} {w : World} (hy : YieldsR P ops C oi v a) (h : wpOp P ops Q j K (a.put oi.dst v) w) :
    wpOp P ops Q j (fun a' w' => YieldsR P ops C oi v a' ∧ K (a'.put oi.dst v) w') a w := by
  obtain ⟨h1, h2, h3⟩ := Oper.apart_spec hap
  have keep : ∀ (a : Act), YieldsR P ops C oi v a → ∀ u, YieldsR P ops C oi v (a.put oj.dst u) := fun a hy u => hy.of_same (execOp_put oi hsi a oj.dst u h3) (wanted_put oi a oj.dst u h3)
  unfold wpOp at *
  simp only [hj] at *
  rw [wanted_put oj a oi.dst v h1] at h
  by_cases hw : Region.wanted oj (yielded ops a.tmps) = true
  · simp only [hw, if_true] at h ⊢
    rcases h with h | ⟨hasks, hlets⟩
    case inr => exact .inr ⟨by unfold Oper.asks at *; rw [execOp_put oj hsj a oi.dst v h1] at hasks; exact hasks, hlets⟩
    refine .inl ?_
    unfold Oper.wp at *
    rw [execOp_put oj hsj a oi.dst v h1] at h
    generalize (execOp a.eval oj).run P w = r at *
    cases r with
    | ok n w' =>
      cases n <;> simp only [Oper.upon] at h ⊢
      case value u => exact ⟨keep a hy u, by rw [← Act.put_comm a v u h2]; exact h⟩
      case skip => exact ⟨keep a hy _, by rw [← Act.put_comm a v undef h2]; exact h⟩
      case defer d =>
        have hyd : YieldsR P ops C oi v { a with defers := d :: a.defers } := hy.of_same rfl rfl
        refine ⟨keep _ hyd _, ?_⟩
        rw [← Act.put_comm _ v undef h2, ← Act.put_defers]
        exact h
      case enter f args =>
        refine Calls.mono h fun e w'' he => ?_
        cases e with
        | returned u => exact ⟨keep a hy u, by rw [← Act.put_comm a v u h2]; exact he⟩
        | panicked c => exact hQ _ _ _ he
        | outgrown => exact he
      case row row args => exact Rows.mono h fun u w'' he => ⟨keep a hy u, by rw [← Act.put_comm a v u h2]; exact he⟩
    | halt x w' =>
      cases x <;> simp only [Oper.upon] at h ⊢
      case panic u => exact hQ _ _ _ h
  · have hw' : Region.wanted oj (yielded ops a.tmps) = false := by simpa using hw
    simp only [hw', Bool.false_eq_true, if_false] at h ⊢
    exact ⟨keep a hy _, by rw [← Act.put_comm a v undef h2]; exact h⟩
/-- Every order; the worlds are of C until the t-th operation has come up. -/
def wpAnyC (P : Program) (md : Region.Mode) (ops : Array Oper) (C : World → Prop) (t : Nat) (Q : Exit → Act → World → Prop) : Nat → Array Bool → Act → World → Prop
  | 0, listed, a, w => Region.ready md ops listed = [] ∧ Q .normal a w
  | fuel + 1, listed, a, w => (Region.ready md ops listed = [] → Q .normal a w) ∧
    ∀ i ∈ Region.ready md ops listed, wpOp P ops Q i (fun a' w' => ((listed.setIfInBounds i true).getD t true = false → C w') ∧ wpAnyC P md ops C t Q fuel (listed.setIfInBounds i true) a' w') a w
theorem wpAnyC_any {t : Nat} : ∀ (fuel : Nat) (listed : Array Bool) (a : Act) (w : World), wpAnyC P md ops C t Q fuel listed a w → wpAny P md ops Q fuel listed a w
  | 0, _, _, _, h => h
  | fuel + 1, _, _, _, h => ⟨h.1, fun i hi => wpOp_mono (fun a w k => wpAnyC_any fuel _ a w k.2) (h.2 i hi)⟩
theorem getD_set_ne' {l : Array Bool} {i j : Nat} (h : i ≠ j) : (l.setIfInBounds i true).getD j true = l.getD j true := getD_set_ne true h
/-- A read may be taken first. -/
theorem wpAnyC_take {i t : Nat} {oi : Oper} {v : Value} (hi : ops[i]? = some oi) (hti : t ≠ i) (hlast : ∀ listed : Array Bool, ClosedL md ops listed → listed.getD t true = true → listed.getD i true = true)
    (hsel : ∀ (j : Nat) (o : Oper) cs b, ops[j]? = some o → o.op ≠ .select cs b) (hQ : ∀ c a a' w, Q (.panic c) a w → Q (.panic c) a' w) :
    ∀ (fuel : Nat) (listed : Array Bool) (a : Act) (w : World), ClosedL md ops listed →
      (∀ j oj, ops[j]? = some oj → j ≠ i → listed.getD j true = false → (∀ e ∈ oj.after, Region.binds md e = true → e.on ≠ i) → oi.apart ops oj = true) →
      i ∈ Region.ready md ops listed → YieldsR P ops C oi v a → C w →
      wpAnyC P md ops C t Q fuel (listed.setIfInBounds i true) (a.put oi.dst v) w → wpAnyC P md ops C t Q (fuel + 1) listed a w := by
  intro fuel
  induction fuel with
  | zero =>
    intro listed a w hcl _ hr hy hC H
    refine ⟨fun h => (by rw [h] at hr; cases hr), fun j hj => ?_⟩
    by_cases hji : j = i
    · subst hji; exact hy.fire hi hC ⟨fun _ => hC, H⟩
    · have := ready_mono hj hji
      rw [H.1] at this
      cases this
  | succ fuel ih =>
    intro listed a w hcl hfree hr hy hC H
    refine ⟨fun h => (by rw [h] at hr; cases hr), fun j hj => ?_⟩
    by_cases hji : j = i
    · subst hji; exact hy.fire hi hC ⟨fun _ => hC, H⟩
    · have h1 := H.2 j (ready_mono hj hji)
      obtain ⟨hjun, oj, hoj, hall⟩ := mem_ready.1 hj
      have hiun := (mem_ready.1 hr).1
      have hnot : ∀ e ∈ oj.after, Region.binds md e = true → e.on ≠ i := fun e he hb heq => by
        have h1 := hall e he hb
        rw [heq] at h1
        rcases Nat.lt_or_ge i listed.size with h' | h'
        · simp [h'] at hiun h1; rw [hiun] at h1; cases h1
        · simp [Array.getElem?_eq_none h'] at h1
      have h2 := wpOp_putR hoj (hfree j oj hoj hji hjun hnot) (fun cs b => hsel i oi cs b hi) (fun cs b => hsel j oj cs b hoj) (fun c a w h => hQ c _ _ w h) hy h1
      have hfree' : ∀ k ok, ops[k]? = some ok → k ≠ i → (listed.setIfInBounds j true).getD k true = false → (∀ e ∈ ok.after, Region.binds md e = true → e.on ≠ i) → oi.apart ops ok = true := fun k ok hk hki hun hno => by
        refine hfree k ok hk hki ?_ hno
        by_cases hjk : j = k
        · subst hjk; exact hjun
        · rw [getD_set_ne' hjk] at hun; exact hun
      have hclj := hcl.set hj
      have htj : (listed.setIfInBounds j true).getD t true = false := by
        cases hb : (listed.setIfInBounds j true).getD t true
        · rfl
        · have h3 := hlast _ hclj hb
          rw [getD_set_ne' hji, hiun] at h3
          cases h3
      refine wpOp_mono (fun a' w' h3 => ?_) h2
      obtain ⟨hy', hC', hrest⟩ := h3
      have hCw : C w' := hC' (by rw [Array.setIfInBounds_comm _ _ (Ne.symm hji), getD_set_ne' (Ne.symm hti)]; exact htj)
      exact ⟨fun _ => hCw, ih _ a' w' hclj hfree' (ready_mono hr (Ne.symm hji)) hy' hCw (by rw [Array.setIfInBounds_comm _ _ hji]; exact hrest)⟩
/-- The tail, one operation after another: the worlds are of C up to the t-th. -/
def wpListC (P : Program) (ops : Array Oper) (C : World → Prop) (t : Nat) (Q : Exit → Act → World → Prop) : Nat → List Oper → Act → World → Prop
  | _, [], a, w => Q .normal a w
  | k, o :: rest, a, w => if Region.wanted o (yielded ops a.tmps) then o.wp P a w (fun a' w' => (k < t → C w') ∧ wpListC P ops C t Q (k + 1) rest a' w') Q else (k < t → C w) ∧ wpListC P ops C t Q (k + 1) rest (a.put o.dst undef) w
theorem wpAnyC_forced {t : Nat} : ∀ (l : List Oper) (k : Nat) (listed : Array Bool) (a : Act) (w : World), (∀ j, j < l.length → l[j]? = ops[k + j]?) → (∀ j, j < k → listed.getD j true = true) → (∀ j, k ≤ j → j < k + l.length → listed.getD j true = false) → forcedB md ops l.length k listed = true → t < k + l.length → wpListC P ops C t Q k l a w → wpAnyC P md ops C t Q l.length listed a w
  | [], _, _, _, _, _, _, _, hB, _, h => by
    simp only [List.length_nil, forcedB, List.isEmpty_iff] at hB
    exact ⟨hB, h⟩
  | o :: l, k, listed, a, w, hl, hlo, hhi, hB, ht, h => by
    have h0 : ops[k]? = some o := by simpa using (hl 0 (by simp)).symm
    simp only [List.length_cons, forcedB, Bool.and_eq_true, beq_iff_eq] at hB
    simp only [List.length_cons] at ht hhi
    have hks : k < listed.size := by
      rcases Nat.lt_or_ge k listed.size with h' | h'
      · exact h'
      · have := hhi k (Nat.le_refl _) (by omega)
        simp [Array.getElem?_eq_none h'] at this
    have ih := fun a w h => wpAnyC_forced (t := t) l (k + 1) (listed.setIfInBounds k true) a w (fun j hj => by have := hl (j + 1) (by simp; omega); simpa [Nat.add_assoc, Nat.add_comm 1 j] using this)
      (fun j hj => by
        by_cases e : k = j
        · subst e; simp [hks]
        · rw [getD_set_ne' e]; exact hlo j (by omega))
      (fun j h1 h2 => by rw [getD_set_ne' (by omega)]; exact hhi j (by omega) (by omega)) hB.2 (by omega) h
    have hneed : ∀ {p : Prop}, (k < t → p) → (listed.setIfInBounds k true).getD t true = false → p := fun hp hf => hp (by
      rcases Nat.lt_trichotomy k t with h1 | h1 | h1
      · exact h1
      · subst h1; simp [hks] at hf
      · rw [getD_set_ne' (by omega), hlo t (by omega)] at hf; cases hf)
    refine ⟨fun e => absurd e (by rw [hB.1]; simp), fun i hi => ?_⟩
    rw [hB.1] at hi
    have e : i = k := by simpa using hi
    subst e
    unfold wpOp
    simp only [h0]
    unfold wpListC at h
    by_cases hw : Region.wanted o (yielded ops a.tmps) = true
    · rw [if_pos hw] at h ⊢
      exact .inl (Oper.wp_mono (fun a w h => ⟨hneed h.1, ih a w h.2⟩) h)
    · rw [if_neg hw] at h ⊢
      exact ⟨hneed h.1, ih _ _ h.2⟩
/-- Operations that only read, by their looks. -/
def readB (o : Oper) : Bool := match o.op with
  | .move _ => true
  | .assign _ => true
  | .load _ _ => true
  | .fieldAddr _ _ _ => true
  | .indexAddr _ _ _ => true
  | _ => false
theorem run_value {s : Sem Value} {w w' : World} {n : Next} (h : (do pure (Next.value (← s)) : Sem Next).run P w = .ok n w') : ∃ u, n = .value u := by
  simp only [Sem.run_bind, Sem.run_pure] at h
  cases hr : s.run P w with
  | ok u w1 => rw [hr] at h; simp only [Result.andThen] at h; injection h with h1; exact ⟨u, h1.symm⟩
  | halt x w1 => rw [hr] at h; simp [Result.andThen] at h
theorem read_value {o : Oper} (h : readB o = true) {ρ : Operand → Value} {w w' : World} {n : Next} (hr : (execOp ρ o).run P w = .ok n w') : ∃ u, n = .value u := by
  obtain ⟨dst, op, type, pos, after, guard⟩ := o
  cases op <;> simp only [readB, Bool.false_eq_true] at h
  all_goals (simp only [execOp] at hr)
  case move x => rw [Sem.run_pure] at hr; injection hr with h1; exact ⟨_, h1.symm⟩
  case assign x => rw [Sem.run_pure] at hr; injection hr with h1; exact ⟨_, h1.symm⟩
  all_goals exact run_value hr
theorem read_of_quiet {o : Oper} {a : Act} {K : Act → Prop} (hb : readB o = true) (hw : Region.wanted o (yielded ops a.tmps) = true) (h : o.quiet P a C K) : ∃ v, YieldsR P ops C o v a ∧ K (a.put o.dst v) := by
  obtain ⟨v, h1, h2⟩ := h
  refine ⟨v, .inl ⟨hw, fun w hC => ?_⟩, h2⟩
  have h3 := h1 w hC
  unfold Oper.quietAt at h3
  cases hr : (execOp a.eval o).run P w with
  | ok n w' =>
    obtain ⟨u, rfl⟩ := read_value hb hr
    rw [hr] at h3
    obtain ⟨e1, e2⟩ := h3
    rw [e1, e2]
  | halt x w' => rw [hr] at h3; exact h3.elim
def lexR (md : Region.Mode) (ops : Array Oper) (n : Nat) : Nat → Nat → Array Bool → Bool
  | 0, _, listed => forcedB md ops (ops.size - n) n listed
  | fuel + 1, k, listed => (Region.ready md ops listed).contains k && Region.free md ops listed k && lexR md ops n fuel (k + 1) (listed.setIfInBounds k true)
def takeB (md : Region.Mode) (all : List Oper) (n t : Nat) : Bool :=
  Region.noSelect all.toArray && (List.range n).all (fun i => waitsF md all.toArray 8 t i) && (all.take n).all readB && lexR md all.toArray n n 0 (Array.replicate all.length false) && decide (n ≤ t) && decide (t < all.length)
theorem wpAnyC_lex {n t : Nat} {all : List Oper} (hs : Region.noSelect all.toArray = true) (hn : ∀ i, i < n → waitsF md all.toArray 8 t i = true) (hnt : n ≤ t) (htl : t < all.length) (hQ : ∀ c a a' w, Q (.panic c) a w → Q (.panic c) a' w) :
    ∀ (l : List Oper) (k : Nat) (listed : Array Bool) (a : Act) (w : World), ClosedL md all.toArray listed → (∀ j, j < l.length → l[j]? = all.toArray[k + j]?) → k + l.length = n → (∀ j, j < k → listed.getD j true = true) → (∀ j, k ≤ j → j < all.length → listed.getD j true = false) → (∀ o ∈ l, readB o = true) →
      lexR md all.toArray n l.length k listed = true → C w → wpQuiet P all.toArray C (fun a' => ∀ w', C w' → ∀ r, r = all.drop n → wpListC P all.toArray C t Q n r a' w') l a → wpAnyC P md all.toArray C t Q (l.length + (all.length - n)) listed a w
  | [], k, listed, a, w, hcl, hl, hkn, hlo, hhi, _, hB, hC, h => by
    simp only [List.length_nil, Nat.add_zero] at hkn
    subst hkn
    have hld : (all.drop k).length = all.length - k := by rw [List.length_drop]
    have := wpAnyC_forced (P := P) (C := C) (Q := Q) (t := t) (all.drop k) k listed a w (fun j _ => by simp [List.getElem?_drop]) hlo (fun j h1 h2 => hhi j h1 (by rw [hld] at h2; omega)) (by rw [hld]; simpa [lexR] using hB) (by rw [hld]; omega) (h w hC _ rfl)
    rw [hld] at this
    simpa using this
  | o :: l, k, listed, a, w, hcl, hl, hkn, hlo, hhi, hrd, hB, hC, h => by
    have h0 : all.toArray[k]? = some o := by simpa using (hl 0 (by simp)).symm
    simp only [List.length_cons, lexR, Bool.and_eq_true] at hB
    obtain ⟨⟨hr, hf⟩, hB'⟩ := hB
    simp only [List.length_cons] at hkn
    have hr' : k ∈ Region.ready md all.toArray listed := by simpa using hr
    have hks : k < listed.size := by
      rcases Nat.lt_or_ge k listed.size with h' | h'
      · exact h'
      · have := hhi k (Nat.le_refl _) (by omega)
        simp [Array.getElem?_eq_none h'] at this
    have next : ∀ v, YieldsR P all.toArray C o v a → wpQuiet P all.toArray C (fun a' => ∀ w', C w' → ∀ r, r = all.drop n → wpListC P all.toArray C t Q n r a' w') l (a.put o.dst v) → wpAnyC P md all.toArray C t Q ((o :: l).length + (all.length - n)) listed a w := fun v hy hk => by
      have ih := wpAnyC_lex hs hn hnt htl hQ l (k + 1) (listed.setIfInBounds k true) (a.put o.dst v) w (hcl.set hr') (fun j hj => by have := hl (j + 1) (by simp; omega); simpa [Nat.add_assoc, Nat.add_comm 1 j] using this) (by omega)
        (fun j hj => by
          by_cases e : k = j
          · subst e; simp [hks]
          · rw [getD_set_ne' e]; exact hlo j (by omega))
        (fun j h1 h2 => by rw [getD_set_ne' (by omega)]; exact hhi j (by omega) h2) (fun o ho => hrd o (by simp [ho])) hB' hC hk
      rw [show (o :: l).length + (all.length - n) = (l.length + (all.length - n)) + 1 by simp; omega]
      exact wpAnyC_take h0 (by omega) (fun L hc hl => waitsF_listed hc 8 t k hl (hn k (by omega))) (Region.noSelect_spec hs) hQ _ listed a w hcl (Region.free_spec h0 hf) hr' hy hC ih
    unfold wpQuiet at h
    by_cases hw : Region.wanted o (yielded all.toArray a.tmps) = true
    · rw [if_pos hw] at h
      obtain ⟨v, hy, hk⟩ := read_of_quiet (hrd o (by simp)) hw h
      exact next v hy hk
    · rw [if_neg hw] at h
      exact next undef (.inr ⟨by simpa using hw, rfl⟩) h
/-- A region: the first n operations read (in worlds of C); behind them the others come one after another, the worlds are of C up to the t-th, which waits for all readings. -/
theorem wp_region_take (n t : Nat) {id : Nat} {a : Act} {w : World} {all : List Oper} (C : World → Prop) (hm : P.follows .mixedOrders = true) (hC : C w.drew) (hB : takeB .any all n t = true) (hQ : ∀ c a a' w, Q (.panic c) a w → Q (.panic c) a' w)
    (h : ∀ l, l = all.take n → wpQuiet P all.toArray C (fun a' => ∀ w', C w' → ∀ r, r = all.drop n → wpListC P all.toArray C t Q n r a' w') l a) : (Code.region id all.toArray true).wp P Q a w := by
  simp only [takeB, Bool.and_eq_true, List.all_eq_true, List.mem_range, decide_eq_true_eq] at hB
  obtain ⟨⟨⟨⟨⟨hs, hn⟩, hrd⟩, hlx⟩, hnt⟩, htl⟩ := hB
  have hlt : (all.take n).length = n := by rw [List.length_take]; omega
  refine wp_region_any hm ?_
  have h1 := wpAnyC_lex (P := P) (C := C) (Q := Q) (md := .any) hs hn hnt htl hQ (all.take n) 0 (Array.replicate all.toArray.size false) a w.drew (ClosedL.start _ _) (fun j hj => by rw [hlt] at hj; simp [hj]) (by omega) (fun j hj => absurd hj (Nat.not_lt_zero _)) (fun j _ hj => by simp [hj]) (fun o ho => hrd o ho) (by rw [hlt]; simpa using hlx) hC (h _ rfl)
  have h2 := wpAnyC_any _ _ _ _ h1
  rw [hlt, show n + (all.length - n) = all.length by omega] at h2
  simpa using h2
/- The tail. -/
theorem wpListC_step {t k : Nat} {o : Oper} {rest : List Oper} {a : Act} {w : World} (hg : o.guard = none) (h : ∀ K : Act → World → Prop, (∀ a' w', (k < t → C w') → wpListC P ops C t Q (k + 1) rest a' w' → K a' w') → o.wp P a w K Q) : wpListC P ops C t Q k (o :: rest) a w := by
  unfold wpListC
  rw [if_pos (by simp [Region.wanted, hg])]
  exact h _ (fun _ _ h1 h2 => ⟨h1, h2⟩)
theorem wpListC_rest {t : Nat} : ∀ (l : List Oper) (k : Nat) (a : Act) (w : World), t ≤ k → (∀ a w, ¬Q .outgrown a w) → wpList P ops Q l a w → wpListC P ops C t Q k l a w
  | [], _, _, _, _, _, h => h
  | o :: l, k, a, w, hk, hL, h => by
    unfold wpList at h
    unfold wpListC
    by_cases hw : Region.wanted o (yielded ops a.tmps) = true
    · rw [if_pos hw] at h ⊢
      rcases h with h | h
      · exact Oper.wp_mono (fun a w h => ⟨fun e => absurd e (by omega), wpListC_rest l (k + 1) a w (by omega) hL h⟩) h
      · obtain ⟨_, a', w', h'⟩ := h
        exact absurd h' (hL a' w')
    · rw [if_neg hw] at h ⊢
      exact ⟨fun e => absurd e (by omega), wpListC_rest l (k + 1) _ w (by omega) hL h⟩
/-- No panic, nothing outgrown. -/
def calmQ (Q : Exit → Act → World → Prop) : Exit → Act → World → Prop
  | .panic _, _, _ => False
  | .outgrown, _, _ => False
  | .normal, a, w => Q .normal a w
  | .ret, a, w => Q .ret a w
  | .exit id, a, w => Q (.exit id) a w
  | .goto l, a, w => Q (.goto l) a w
theorem calmQ_normal {Q : Exit → Act → World → Prop} {a : Act} {w : World} : calmQ Q .normal a w = Q .normal a w := rfl
theorem calmQ_mono {Q : Exit → Act → World → Prop} : ∀ e a w, calmQ Q e a w → Q e a w := fun e a w h => by
  cases e with
  | panic c => exact h.elim
  | outgrown => exact h.elim
  | normal => exact h
  | ret => exact h
  | exit id => exact h
  | goto l => exact h
theorem wp_region_takeQ (n t : Nat) {id : Nat} {a : Act} {w : World} {all : List Oper} (C : World → Prop) (hm : P.follows .mixedOrders = true) (hC : C w.drew) (hB : takeB .any all n t = true)
    (h : ∀ l, l = all.take n → wpQuiet P all.toArray C (fun a' => ∀ w', C w' → ∀ r, r = all.drop n → wpListC P all.toArray C t (calmQ Q) n r a' w') l a) : (Code.region id all.toArray true).wp P Q a w :=
  wp_mono (wp_region_take n t C hm hC hB (fun _ _ _ _ h => h.elim) h) calmQ_mono
end
end Go.Proofs.Ytgbdlgogccgciaa
