import Derived.Test.YtplhghhfdabccaaSpecW
namespace Go.Proofs.Ytplhghhfdabccaa
open Go.RowKit

/- THE TWO SIDES AGREE. -/
theorem nodup_count : ∀ (l : List Int), l.Nodup → ∀ x, l.count x ≤ 1
  | [], _, x => by simp
  | a :: l, h, x => by
    obtain ⟨h1, h2⟩ := List.nodup_cons.1 h
    have ih := nodup_count l h2 x
    rw [List.count_cons]
    by_cases e : a = x
    · subst e
      rw [List.count_eq_zero_of_not_mem h1]
      simp
    · have : (a == x) = false := beq_eq_false_iff_ne.2 e
      rw [this]
      simp
      exact ih
theorem count_nodup : ∀ (l : List Int), (∀ x, x ∈ l → l.count x ≤ 1) → l.Nodup
  | [], _ => List.nodup_nil
  | a :: l, h => by
    refine List.nodup_cons.2 ⟨fun hm => ?_, count_nodup l fun x hx => ?_⟩
    · have h1 := h a (List.mem_cons_self ..)
      rw [List.count_cons_self] at h1
      have := List.count_pos_iff.2 hm
      omega
    · have h1 := h x (List.mem_cons_of_mem _ hx)
      have := List.count_le_count_cons (a := x) (b := a) (l := l)
      omega

theorem grpOKs_iff (G : Int) : ∀ (gs done : List Int), grpOKs G done gs = true ↔ (∀ x, x ∈ gs → 1 ≤ x ∧ x ≤ G) ∧ (∀ x, x ∈ gs → x ∉ done) ∧ gs.Nodup ∧ ((done.length : Int) + gs.length = G)
  | [], done => by simp [grpOKs]
  | g :: gs, done => by
    unfold grpOKs
    by_cases hc : g < 1 ∨ G < g ∨ g ∈ done
    · rw [if_pos hc]
      constructor
      · intro h; cases h
      · rintro ⟨h1, h2, _, _⟩
        have a1 := h1 g (List.mem_cons_self ..)
        have a2 := h2 g (List.mem_cons_self ..)
        rcases hc with h | h | h
        · omega
        · omega
        · exact absurd h a2
    · rw [if_neg hc, grpOKs_iff G gs (g :: done)]
      constructor
      · rintro ⟨h1, h2, h3, h4⟩
        refine ⟨fun x hx => ?_, fun x hx => ?_, ?_, ?_⟩
        · rcases List.mem_cons.1 hx with rfl | hx
          · omega
          · exact h1 x hx
        · rcases List.mem_cons.1 hx with rfl | hx
          · exact fun h => hc (.inr (.inr h))
          · exact fun h => h2 x hx (List.mem_cons_of_mem _ h)
        · exact List.nodup_cons.2 ⟨fun hm => h2 g hm (List.mem_cons_self ..), h3⟩
        · simp at h4 ⊢; omega
      · rintro ⟨h1, h2, h3, h4⟩
        obtain ⟨h5, h6⟩ := List.nodup_cons.1 h3
        refine ⟨fun x hx => h1 x (List.mem_cons_of_mem _ hx), fun x hx hm => ?_, h6, ?_⟩
        · rcases List.mem_cons.1 hm with rfl | hm
          · exact h5 hx
          · exact h2 x (List.mem_cons_of_mem _ hx) hm
        · simp at h4 ⊢; omega

def cnt (gs : List Int) : Nat → Nat
  | 0 => 0
  | n + 1 => cnt gs n + gs.count ((n : Int) + 1)
def inR (n : Nat) (x : Int) : Bool := decide (1 ≤ x ∧ x ≤ n)
theorem filter_succ (n : Nat) : ∀ gs : List Int, (gs.filter (inR (n + 1))).length = (gs.filter (inR n)).length + gs.count ((n : Int) + 1)
  | [] => rfl
  | g :: gs => by
    have ih := filter_succ n gs
    rw [List.filter_cons, List.filter_cons, List.count_cons]
    by_cases e : g = (n : Int) + 1
    · have h1 : inR (n + 1) g = true := by simp [inR]; omega
      have h2 : inR n g = false := by simp [inR]; omega
      have h3 : (g == (n : Int) + 1) = true := beq_iff_eq.2 e
      rw [h1, h2, h3]
      simp
      omega
    · have h3 : (g == (n : Int) + 1) = false := beq_eq_false_iff_ne.2 e
      have h1 : inR (n + 1) g = inR n g := by simp only [inR]; rw [decide_eq_decide]; omega
      rw [h1, h3]
      by_cases h2 : inR n g = true
      · rw [if_pos h2, if_pos h2]; simp; omega
      · rw [if_neg h2, if_neg h2]; simp; omega
theorem cnt_eq (gs : List Int) : ∀ n, cnt gs n = (gs.filter (inR n)).length
  | 0 => by
    have : gs.filter (inR 0) = [] := List.filter_eq_nil_iff.2 fun x _ => by simp [inR]; omega
    rw [this]; rfl
  | n + 1 => by rw [cnt, cnt_eq gs n, filter_succ]
theorem cnt_le (gs : List Int) (h : ∀ x, gs.count x ≤ 1) : ∀ n, cnt gs n ≤ n
  | 0 => Nat.le_refl _
  | n + 1 => by have := cnt_le gs h n; have := h ((n : Int) + 1); rw [cnt]; omega
theorem cnt_all (gs : List Int) (h : ∀ x, gs.count x ≤ 1) : ∀ n, cnt gs n = n → ∀ i, i < n → gs.count ((i : Int) + 1) = 1
  | 0, _, i, hi => absurd hi (Nat.not_lt_zero _)
  | n + 1, he, i, hi => by
    have h1 := cnt_le gs h n
    have h2 := h ((n : Int) + 1)
    rw [cnt] at he
    by_cases e : i = n
    · subst e; omega
    · exact cnt_all gs h n (by omega) i (by omega)
theorem cnt_ones (gs : List Int) : ∀ n : Nat, (∀ i : Nat, i < n → gs.count ((i : Int) + 1) = 1) → cnt gs n = n
  | 0, _ => rfl
  | n + 1, h => by rw [cnt, cnt_ones gs n fun i hi => h i (by omega), h n (by omega)]

theorem groups_same (G : Int) (hG : 0 ≤ G) (gs : List Int) : grpOKs G [] gs = (((gs.length : Int) == G) && onceB G gs) := by
  obtain ⟨n, rfl⟩ := Int.eq_ofNat_of_zero_le hG
  have key : grpOKs (n : Int) [] gs = true ↔ (gs.length = n ∧ ∀ i, i < n → gs.count ((i : Int) + 1) = 1) := by
    rw [grpOKs_iff]
    constructor
    · rintro ⟨h1, _, h3, h4⟩
      have hl : gs.length = n := by simp at h4; omega
      refine ⟨hl, ?_⟩
      have hc := nodup_count gs h3
      refine cnt_all gs hc n ?_
      rw [cnt_eq, List.filter_eq_self.2 fun x hx => by have := h1 x hx; simp [inR]; omega]
      exact hl
    · rintro ⟨hl, h1⟩
      have he := cnt_ones gs n h1
      rw [cnt_eq] at he
      have hf : gs.filter (inR n) = gs := List.Sublist.eq_of_length_le List.filter_sublist (by omega)
      have hr : ∀ x, x ∈ gs → 1 ≤ x ∧ x ≤ (n : Int) := by
        intro x hx
        have := List.filter_eq_self.1 hf x hx
        simpa [inR] using this
      refine ⟨hr, fun _ _ h => by simp at h, count_nodup gs fun x hx => ?_, by simp; omega⟩
      have hx1 := hr x hx
      have := h1 (x - 1).toNat (by omega)
      rw [show (((x - 1).toNat : Nat) : Int) + 1 = x by omega] at this
      omega
  have key2 : (((gs.length : Int) == (n : Int)) && onceB (n : Int) gs) = true ↔ (gs.length = n ∧ ∀ i, i < n → gs.count ((i : Int) + 1) = 1) := by
    rw [Bool.and_eq_true, beq_iff_eq]
    unfold onceB
    rw [List.all_eq_true]
    constructor
    · rintro ⟨h1, h2⟩
      exact ⟨by omega, fun i hi => by simpa using h2 i (by simpa using hi)⟩
    · rintro ⟨h1, h2⟩
      exact ⟨by omega, fun i hi => by simpa using h2 i (by simpa using hi)⟩
  cases ha : grpOKs (n : Int) [] gs <;> cases hb : (((gs.length : Int) == (n : Int)) && onceB (n : Int) gs)
  · rfl
  · rw [key.2 (key2.1 hb)] at ha; cases ha
  · rw [key2.2 (key.1 ha)] at hb; cases hb
  · rfl

theorem liftAll_ok : ∀ bs : List BranchD, allB bs = true → liftAll bs = some (bs.map wLast)
  | [], _ => rfl
  | b :: bs, h => by
    unfold allB at h
    rw [List.all_cons, Bool.and_eq_true] at h
    obtain ⟨h1, h2⟩ := h
    rw [Bool.and_eq_true] at h1
    have ih := liftAll_ok bs h2
    have hl := (liftF_ok b.nodes h1.1 (kidsB_ar h1.1) h1.2).2
    unfold liftAll
    rw [hl, ih]
    rfl
theorem liftAll_no : ∀ bs : List BranchD, allB bs = false → liftAll bs = none
  | [], h => by simp [allB] at h
  | b :: bs, h => by
    unfold liftAll
    by_cases hb : (kidsB b.nodes && b.nodes.all nodeB) = true
    · have h2 : allB bs = false := by
        unfold allB at h ⊢
        rw [List.all_cons, hb, Bool.true_and] at h
        exact h
      rw [liftAll_no bs h2]
      cases liftF b.nodes <;> rfl
    · rw [liftF_no b.nodes (by
        cases hk : kidsB b.nodes
        · exact .inl rfl
        · right
          cases ha : b.nodes.all nodeB
          · rfl
          · rw [hk, ha] at hb; exact absurd rfl hb)]

theorem fold_cap : ∀ (st : List Int) (s : Int), 0 ≤ s → s ≤ 2001 → (∀ x, x ∈ st → 0 ≤ x) → st.foldl (fun s a => capW (s + a)) s = capW (s + st.sum)
  | [], s, h0, h1, _ => by simp [capW_le h1]
  | a :: st, s, h0, h1, h => by
    have ha := h a (List.mem_cons_self ..)
    have hc := capW_nonneg (show 0 ≤ s + a by omega)
    rw [List.foldl_cons, fold_cap st (capW (s + a)) hc.1 hc.2 fun x hx => h x (List.mem_cons_of_mem _ hx), List.sum_cons]
    have hs : 0 ≤ st.sum := by
      have : ∀ l : List Int, (∀ x, x ∈ l → 0 ≤ x) → 0 ≤ l.sum := by
        intro l
        induction l with
        | nil => intro _; simp
        | cons b l ih => intro hl; have := ih fun x hx => hl x (List.mem_cons_of_mem _ hx); have := hl b (List.mem_cons_self ..); rw [List.sum_cons]; omega
      exact this st fun x hx => h x (List.mem_cons_of_mem _ hx)
    unfold capW
    split <;> split <;> split <;> omega
theorem ruleW_sum : ∀ bs : List BranchD, ruleW bs = (bs.map wLast).sum
  | [] => rfl
  | b :: bs => by rw [ruleW, ruleW_sum bs]; simp
theorem weights_same (bs : List BranchD) (h : allB bs = true) : decide (sumCap (bs.map wLast) ≤ 2000) = decide (ruleW bs ≤ 2000) := by
  unfold sumCap
  rw [fold_cap _ 0 (by omega) (by omega) (by
    intro x hx
    obtain ⟨b, hb, rfl⟩ := List.mem_map.1 hx
    have := List.all_eq_true.1 h b hb
    rw [Bool.and_eq_true] at this
    have := wLast_bd this.1 (kidsB_ar this.1) this.2
    omega), ← ruleW_sum, Int.zero_add, decide_eq_decide]
  unfold capW
  split <;> omega

theorem rule_same (G : Int) (bs : List BranchD) : implB G bs = specB G bs := by
  unfold implB specB
  by_cases hG : 0 ≤ G ∧ G ≤ 500
  · rw [groups_same G hG.1]
    cases ha : allB bs
    · rw [liftAll_no bs ha]; simp
    · rw [liftAll_ok bs ha]
      simp only [weights_same bs ha, Bool.and_true]
      cases decide (1 ≤ bs.length ∧ bs.length ≤ 2000) <;> cases decide (0 ≤ G ∧ G ≤ 500) <;> cases decide (nodeCount bs ≤ 5000) <;> cases ((allGrp bs).length : Int) == G <;> simp
  · have : decide (0 ≤ G ∧ G ≤ 500) = false := by simpa using hG
    rw [this]
    simp
end Go.Proofs.Ytplhghhfdabccaa
