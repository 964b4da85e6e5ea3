import Derived.Test.YtgbdlgogccgciaaGreatDoorRWgtPeXPeYPeZ
import Derived.Test.YtgbdlgogccgciaaGreatDoorPgZ
import Derived.Test.YtgbdlgogccgciaaGreatDoorPgL
namespace Go.Proofs.YtgbdlgogccgciaaGreatDoor
open Go.RowKit

def allB (bs : List BranchD) : Bool := bs.all fun b => kidsB b.nodes && b.nodes.all nodeB
def onceB (G : Int) (gs : List Int) : Bool := (List.range G.toNat).all fun i => gs.count ((i : Int) + 1) == 1
def specB (G : Int) (bs : List BranchD) : Bool :=
  decide (1 ≤ bs.length ∧ bs.length ≤ 2000) && decide (0 ≤ G ∧ G ≤ 500) && decide (nodeCount bs ≤ 5000) && allB bs && (((allGrp bs).length : Int) == G) && onceB G (allGrp bs) && decide (ruleW bs ≤ 2000)

theorem grp_take (ns : List NodeD) (j : Nat) (hj : j < ns.length) (nd : NodeD) (h : ns.getD j .zero = nd) : grp (ns.take (j + 1)) = grp (ns.take j) ++ (if nd.kind = 5 then [nd.group] else []) := by
  induction ns generalizing j with
  | nil => exact absurd hj (Nat.not_lt_zero _)
  | cons n ns ih =>
    cases j with
    | zero =>
      have : n = nd := by simpa [List.getD] using h
      subst this
      simp only [List.take_succ_cons, List.take_zero, grp, List.nil_append]
    | succ j =>
      have := ih j (by simpa using hj) (by simpa [List.getD] using h)
      simp only [List.take_succ_cons, grp] at this ⊢
      rw [this]
      split <;> simp
theorem allGrp_take (bs : List BranchD) (k : Nat) (hk : k < bs.length) (bd : BranchD) (h : bs.getD k .zero = bd) : allGrp (bs.take (k + 1)) = allGrp (bs.take k) ++ grp bd.nodes := by
  induction bs generalizing k with
  | nil => exact absurd hk (Nat.not_lt_zero _)
  | cons b bs ih =>
    cases k with
    | zero =>
      have : b = bd := by simpa [List.getD] using h
      subst this
      simp [allGrp]
    | succ k =>
      have := ih k (by simpa using hk) (by simpa [List.getD] using h)
      simp only [List.take_succ_cons, allGrp] at this ⊢
      rw [this, List.append_assoc]
theorem grp_len : ∀ ns : List NodeD, (grp ns).length ≤ ns.length
  | [] => Nat.le_refl _
  | n :: ns => by have := grp_len ns; unfold grp; split <;> simp <;> omega
theorem allGrp_len : ∀ bs : List BranchD, (allGrp bs).length ≤ nodeCount bs
  | [] => Nat.le_refl _
  | b :: bs => by have := allGrp_len bs; have := grp_len b.nodes; unfold allGrp nodeCount; simp; omega
theorem nodeCount_le (bs : List BranchD) (k : Nat) : nodeCount (bs.take k) ≤ nodeCount bs := by
  induction bs generalizing k with
  | nil => simp
  | cons b bs ih =>
    cases k with
    | zero => simp [nodeCount]
    | succ k => have := ih k; simp only [List.take_succ_cons, nodeCount]; omega
theorem allB_at (bs : List BranchD) (k : Nat) (hk : k < bs.length) (bd : BranchD) (h : bs.getD k .zero = bd) (hf : (kidsB bd.nodes && bd.nodes.all nodeB) = false) : allB bs = false := by
  unfold allB
  rw [List.all_eq_false]
  refine ⟨bs[k], List.getElem_mem _, ?_⟩
  have : bs[k] = bd := by rw [← h]; simp [List.getD, hk]
  rw [this, hf]
  simp
theorem allB_take (bs : List BranchD) (k : Nat) (hk : k < bs.length) (bd : BranchD) (h : bs.getD k .zero = bd) (ht : allB (bs.take k) = true) (hf : (kidsB bd.nodes && bd.nodes.all nodeB) = true) : allB (bs.take (k + 1)) = true := by
  unfold allB at *
  rw [List.take_succ_eq_append_getElem hk, List.all_append, ht]
  have : bs[k] = bd := by rw [← h]; simp [List.getD, hk]
  simp only [List.all_cons, List.all_nil, this, hf, Bool.and_true]
theorem nodes_false (ns : List NodeD) (j : Nat) (hj : j < ns.length) (nd : NodeD) (h : ns.getD j .zero = nd) (hf : nodeB nd = false) : ns.all nodeB = false := by
  rw [List.all_eq_false]
  refine ⟨ns[j], List.getElem_mem _, ?_⟩
  have : ns[j] = nd := by rw [← h]; simp [List.getD, hj]
  rw [this, hf]
  simp
theorem nodes_take (ns : List NodeD) (j : Nat) (hj : j < ns.length) (nd : NodeD) (h : ns.getD j .zero = nd) (ht : (ns.take j).all nodeB = true) (hf : nodeB nd = true) : (ns.take (j + 1)).all nodeB = true := by
  rw [List.take_succ_eq_append_getElem hj, List.all_append, ht]
  have : ns[j] = nd := by rw [← h]; simp [List.getD, hj]
  simp only [List.all_cons, List.all_nil, this, hf, Bool.and_true]
theorem allB_ok {bs : List BranchD} (h : allB bs = true) : AllOK bs := by
  intro i hi
  have := List.all_eq_true.1 h (bs.getD i .zero) (by
    rw [List.getD_eq_getElem?_getD, List.getElem?_eq_getElem hi]
    exact List.getElem_mem _)
  simpa using this
theorem count_take (gs : List Int) (j : Nat) (hj : j < gs.length) (x : Int) : (gs.take (j + 1)).count x = (gs.take j).count x + (if gs.getD j 0 = x then 1 else 0) := by
  rw [List.take_succ_eq_append_getElem hj, List.count_append]
  simp [List.getD, hj, List.count_cons]

def rowG (gs : List Int) : List Value := gs.map (Value.int .i64)
theorem rowG_snoc (gs : List Int) (x : Int) : rowG (gs ++ [x]) = rowG gs ++ [.int .i64 x] := by simp [rowG]
theorem rowG_get (gs : List Int) (i : Nat) (h : i < gs.length) : (rowG gs)[i]? = some (.int .i64 (gs.getD i 0)) := by simp [rowG, h, List.getD]

structure RInv (w wr : World) (v : Value) (G : Int) (gg cc : Nat) (gs : List Int) : Prop where
  below : Below w.heap.size w wr
  box0 : wr.cell? ⟨w.heap.size, 0, none⟩ = some v
  box1 : wr.cell? ⟨w.heap.size, 1, none⟩ = some (.int .i64 G)
  row : wr.ownsRow (w.heap.size + 1) 3 1 (.slice (some ⟨gg, 0, none⟩) gs.length cc) gs.length (rowG gs)
  size : w.heap.size + 1 ≤ wr.heap.size

theorem RInv.same {w wr w1 : World} {v : Value} {G : Int} {gg cc : Nat} {gs : List Int} (h : RInv w wr v G gg cc gs) (hb : Below wr.heap.size wr w1) : RInv w w1 v G gg cc gs :=
  ⟨below_step h.below (Nat.le_trans (Nat.le_succ _) h.size) hb, (hb.cell (by have := h.size; simp; omega)).trans h.box0, (hb.cell (by have := h.size; simp; omega)).trans h.box1, ownsRow_below h.row hb, Nat.le_trans h.size hb.size⟩
theorem RInv.alloc {w wr : World} {v : Value} {G : Int} {gg cc : Nat} {gs : List Int} (h : RInv w wr v G gg cc gs) (o : Obj) : RInv w (wr.alloc o) v G gg cc gs := h.same ((Below.refl _ _).alloc (Nat.le_refl _) _)
theorem RInv.grown {w wr w1 : World} {v : Value} {G : Int} {gg cc g' c' : Nat} {gs : List Int} {x : Int} (h : RInv w wr v G gg cc gs) (hg : wr.grownBy w1 (some gg)) (ho : w1.ownsRow (w.heap.size + 1) 3 1 (.slice (some ⟨g', 0, none⟩) (gs.length + 1) c') (gs.length + 1) (rowG gs ++ [.int .i64 x])) : RInv w w1 v G g' c' (gs ++ [x]) := by
  have hgg := (own_form h.row).1
  have hs := h.size
  refine ⟨h.below.grown hg (by omega) (by intro q hq; cases hq; omega), ?_, ?_, by simpa [rowG_snoc] using ho, Nat.le_trans h.size hg.size⟩
  · exact (hg.cell_far _ (by simp; omega) (by simp; omega)).trans h.box0
  · exact (hg.cell_far _ (by simp; omega) (by simp; omega)).trans h.box1
end Go.Proofs.YtgbdlgogccgciaaGreatDoor
namespace Go.Proofs.YtgbdlgogccgciaaGreatDoor
open Go.RowKit

end Go.Proofs.YtgbdlgogccgciaaGreatDoor
namespace Go.Proofs.YtgbdlgogccgciaaGreatDoor
open Go.RowKit

/- THE TWO SIDES AGREE. -/
theorem nodup_count : ∀ (l : List Int), l.Nodup → ∀ x, l.count x ≤ 1
  | [], _, x => by simp
  | a :: l, h, x => by
    obtain ⟨h1, h2⟩ := List.nodup_cons.1 h
    have ih := nodup_count l h2 x
    rw [List.count_cons]
    by_cases e : a = x
    · subst e
      rw [List.count_eq_zero_of_not_mem h1]
      simp
    · have : (a == x) = false := beq_eq_false_iff_ne.2 e
      rw [this]
      simp
      exact ih
theorem count_nodup : ∀ (l : List Int), (∀ x, x ∈ l → l.count x ≤ 1) → l.Nodup
  | [], _ => List.nodup_nil
  | a :: l, h => by
    refine List.nodup_cons.2 ⟨fun hm => ?_, count_nodup l fun x hx => ?_⟩
    · have h1 := h a (List.mem_cons_self ..)
      rw [List.count_cons_self] at h1
      have := List.count_pos_iff.2 hm
      omega
    · have h1 := h x (List.mem_cons_of_mem _ hx)
      have := List.count_le_count_cons (a := x) (b := a) (l := l)
      omega

theorem grpOKs_iff (G : Int) : ∀ (gs done : List Int), grpOKs G done gs = true ↔ (∀ x, x ∈ gs → 1 ≤ x ∧ x ≤ G) ∧ (∀ x, x ∈ gs → x ∉ done) ∧ gs.Nodup ∧ ((done.length : Int) + gs.length = G)
  | [], done => by simp [grpOKs]
  | g :: gs, done => by
    unfold grpOKs
    by_cases hc : g < 1 ∨ G < g ∨ g ∈ done
    · rw [if_pos hc]
      constructor
      · intro h; cases h
      · rintro ⟨h1, h2, _, _⟩
        have a1 := h1 g (List.mem_cons_self ..)
        have a2 := h2 g (List.mem_cons_self ..)
        rcases hc with h | h | h
        · omega
        · omega
        · exact absurd h a2
    · rw [if_neg hc, grpOKs_iff G gs (g :: done)]
      constructor
      · rintro ⟨h1, h2, h3, h4⟩
        refine ⟨fun x hx => ?_, fun x hx => ?_, ?_, ?_⟩
        · rcases List.mem_cons.1 hx with rfl | hx
          · omega
          · exact h1 x hx
        · rcases List.mem_cons.1 hx with rfl | hx
          · exact fun h => hc (.inr (.inr h))
          · exact fun h => h2 x hx (List.mem_cons_of_mem _ h)
        · exact List.nodup_cons.2 ⟨fun hm => h2 g hm (List.mem_cons_self ..), h3⟩
        · simp at h4 ⊢; omega
      · rintro ⟨h1, h2, h3, h4⟩
        obtain ⟨h5, h6⟩ := List.nodup_cons.1 h3
        refine ⟨fun x hx => h1 x (List.mem_cons_of_mem _ hx), fun x hx hm => ?_, h6, ?_⟩
        · rcases List.mem_cons.1 hm with rfl | hm
          · exact h5 hx
          · exact h2 x (List.mem_cons_of_mem _ hx) hm
        · simp at h4 ⊢; omega

def cnt (gs : List Int) : Nat → Nat
  | 0 => 0
  | n + 1 => cnt gs n + gs.count ((n : Int) + 1)
def inR (n : Nat) (x : Int) : Bool := decide (1 ≤ x ∧ x ≤ n)
theorem filter_succ (n : Nat) : ∀ gs : List Int, (gs.filter (inR (n + 1))).length = (gs.filter (inR n)).length + gs.count ((n : Int) + 1)
  | [] => rfl
  | g :: gs => by
    have ih := filter_succ n gs
    rw [List.filter_cons, List.filter_cons, List.count_cons]
    by_cases e : g = (n : Int) + 1
    · have h1 : inR (n + 1) g = true := by simp [inR]; omega
      have h2 : inR n g = false := by simp [inR]; omega
      have h3 : (g == (n : Int) + 1) = true := beq_iff_eq.2 e
      rw [h1, h2, h3]
      simp
      omega
    · have h3 : (g == (n : Int) + 1) = false := beq_eq_false_iff_ne.2 e
      have h1 : inR (n + 1) g = inR n g := by simp only [inR]; rw [decide_eq_decide]; omega
      rw [h1, h3]
      by_cases h2 : inR n g = true
      · rw [if_pos h2, if_pos h2]; simp; omega
      · rw [if_neg h2, if_neg h2]; simp; omega
theorem cnt_eq (gs : List Int) : ∀ n, cnt gs n = (gs.filter (inR n)).length
  | 0 => by
    have : gs.filter (inR 0) = [] := List.filter_eq_nil_iff.2 fun x _ => by simp [inR]; omega
    rw [this]; rfl
  | n + 1 => by rw [cnt, cnt_eq gs n, filter_succ]
theorem cnt_le (gs : List Int) (h : ∀ x, gs.count x ≤ 1) : ∀ n, cnt gs n ≤ n
  | 0 => Nat.le_refl _
  | n + 1 => by have := cnt_le gs h n; have := h ((n : Int) + 1); rw [cnt]; omega
theorem cnt_all (gs : List Int) (h : ∀ x, gs.count x ≤ 1) : ∀ n, cnt gs n = n → ∀ i, i < n → gs.count ((i : Int) + 1) = 1
  | 0, _, i, hi => absurd hi (Nat.not_lt_zero _)
  | n + 1, he, i, hi => by
    have h1 := cnt_le gs h n
    have h2 := h ((n : Int) + 1)
    rw [cnt] at he
    by_cases e : i = n
    · subst e; omega
    · exact cnt_all gs h n (by omega) i (by omega)
theorem cnt_ones (gs : List Int) : ∀ n : Nat, (∀ i : Nat, i < n → gs.count ((i : Int) + 1) = 1) → cnt gs n = n
  | 0, _ => rfl
  | n + 1, h => by rw [cnt, cnt_ones gs n fun i hi => h i (by omega), h n (by omega)]

theorem groups_same (G : Int) (hG : 0 ≤ G) (gs : List Int) : grpOKs G [] gs = (((gs.length : Int) == G) && onceB G gs) := by
  obtain ⟨n, rfl⟩ := Int.eq_ofNat_of_zero_le hG
  have key : grpOKs (n : Int) [] gs = true ↔ (gs.length = n ∧ ∀ i, i < n → gs.count ((i : Int) + 1) = 1) := by
    rw [grpOKs_iff]
    constructor
    · rintro ⟨h1, _, h3, h4⟩
      have hl : gs.length = n := by simp at h4; omega
      refine ⟨hl, ?_⟩
      have hc := nodup_count gs h3
      refine cnt_all gs hc n ?_
      rw [cnt_eq, List.filter_eq_self.2 fun x hx => by have := h1 x hx; simp [inR]; omega]
      exact hl
    · rintro ⟨hl, h1⟩
      have he := cnt_ones gs n h1
      rw [cnt_eq] at he
      have hf : gs.filter (inR n) = gs := List.Sublist.eq_of_length_le List.filter_sublist (by omega)
      have hr : ∀ x, x ∈ gs → 1 ≤ x ∧ x ≤ (n : Int) := by
        intro x hx
        have := List.filter_eq_self.1 hf x hx
        simpa [inR] using this
      refine ⟨hr, fun _ _ h => by simp at h, count_nodup gs fun x hx => ?_, by simp; omega⟩
      have hx1 := hr x hx
      have := h1 (x - 1).toNat (by omega)
      rw [show (((x - 1).toNat : Nat) : Int) + 1 = x by omega] at this
      omega
  have key2 : (((gs.length : Int) == (n : Int)) && onceB (n : Int) gs) = true ↔ (gs.length = n ∧ ∀ i, i < n → gs.count ((i : Int) + 1) = 1) := by
    rw [Bool.and_eq_true, beq_iff_eq]
    unfold onceB
    rw [List.all_eq_true]
    constructor
    · rintro ⟨h1, h2⟩
      exact ⟨by omega, fun i hi => by simpa using h2 i (by simpa using hi)⟩
    · rintro ⟨h1, h2⟩
      exact ⟨by omega, fun i hi => by simpa using h2 i (by simpa using hi)⟩
  cases ha : grpOKs (n : Int) [] gs <;> cases hb : (((gs.length : Int) == (n : Int)) && onceB (n : Int) gs)
  · rfl
  · rw [key.2 (key2.1 hb)] at ha; cases ha
  · rw [key2.2 (key.1 ha)] at hb; cases hb
  · rfl

theorem liftAll_ok : ∀ bs : List BranchD, allB bs = true → liftAll bs = some (bs.map wLast)
  | [], _ => rfl
  | b :: bs, h => by
    unfold allB at h
    rw [List.all_cons, Bool.and_eq_true] at h
    obtain ⟨h1, h2⟩ := h
    rw [Bool.and_eq_true] at h1
    have ih := liftAll_ok bs h2
    have hl := (liftF_ok b.nodes h1.1 (kidsB_ar h1.1) h1.2).2
    unfold liftAll
    rw [hl, ih]
    rfl
theorem liftAll_no : ∀ bs : List BranchD, allB bs = false → liftAll bs = none
  | [], h => by simp [allB] at h
  | b :: bs, h => by
    unfold liftAll
    by_cases hb : (kidsB b.nodes && b.nodes.all nodeB) = true
    · have h2 : allB bs = false := by
        unfold allB at h ⊢
        rw [List.all_cons, hb, Bool.true_and] at h
        exact h
      rw [liftAll_no bs h2]
      cases liftF b.nodes <;> rfl
    · rw [liftF_no b.nodes (by
        cases hk : kidsB b.nodes
        · exact .inl rfl
        · right
          cases ha : b.nodes.all nodeB
          · rfl
          · rw [hk, ha] at hb; exact absurd rfl hb)]

theorem fold_cap : ∀ (st : List Int) (s : Int), 0 ≤ s → s ≤ 2001 → (∀ x, x ∈ st → 0 ≤ x) → st.foldl (fun s a => capW (s + a)) s = capW (s + st.sum)
  | [], s, h0, h1, _ => by simp [capW_le h1]
  | a :: st, s, h0, h1, h => by
    have ha := h a (List.mem_cons_self ..)
    have hc := capW_nonneg (show 0 ≤ s + a by omega)
    rw [List.foldl_cons, fold_cap st (capW (s + a)) hc.1 hc.2 fun x hx => h x (List.mem_cons_of_mem _ hx), List.sum_cons]
    have hs : 0 ≤ st.sum := by
      have : ∀ l : List Int, (∀ x, x ∈ l → 0 ≤ x) → 0 ≤ l.sum := by
        intro l
        induction l with
        | nil => intro _; simp
        | cons b l ih => intro hl; have := ih fun x hx => hl x (List.mem_cons_of_mem _ hx); have := hl b (List.mem_cons_self ..); rw [List.sum_cons]; omega
      exact this st fun x hx => h x (List.mem_cons_of_mem _ hx)
    unfold capW
    split <;> split <;> split <;> omega
theorem ruleW_sum : ∀ bs : List BranchD, ruleW bs = (bs.map wLast).sum
  | [] => rfl
  | b :: bs => by rw [ruleW, ruleW_sum bs]; simp
theorem weights_same (bs : List BranchD) (h : allB bs = true) : decide (sumCap (bs.map wLast) ≤ 2000) = decide (ruleW bs ≤ 2000) := by
  unfold sumCap
  rw [fold_cap _ 0 (by omega) (by omega) (by
    intro x hx
    obtain ⟨b, hb, rfl⟩ := List.mem_map.1 hx
    have := List.all_eq_true.1 h b hb
    rw [Bool.and_eq_true] at this
    have := wLast_bd this.1 (kidsB_ar this.1) this.2
    omega), ← ruleW_sum, Int.zero_add, decide_eq_decide]
  unfold capW
  split <;> omega

theorem rule_same (G : Int) (bs : List BranchD) : implB G bs = specB G bs := by
  unfold implB specB
  by_cases hG : 0 ≤ G ∧ G ≤ 500
  · rw [groups_same G hG.1]
    cases ha : allB bs
    · rw [liftAll_no bs ha]; simp
    · rw [liftAll_ok bs ha]
      simp only [weights_same bs ha, Bool.and_true]
      cases decide (1 ≤ bs.length ∧ bs.length ≤ 2000) <;> cases decide (0 ≤ G ∧ G ≤ 500) <;> cases decide (nodeCount bs ≤ 5000) <;> cases ((allGrp bs).length : Int) == G <;> simp
  · have : decide (0 ≤ G ∧ G ≤ 500) = false := by simpa using hG
    rw [this]
    simp
end Go.Proofs.YtgbdlgogccgciaaGreatDoor
namespace Go.Proofs.YtgbdlgogccgciaaGreatDoor
open Go.RowKit
attribute [local go_sem ↓] Go.wp_at_zero Go.wp_at_succ

/- READING A RULE, THE CODE's SIDE. -/
theorem NdP.at {B p lo : Nat} {W : World} {v : Value} {ns : List NodeD} {vs : List Value} (h : NdP B p W v ns vs) (hlo : lo ≤ B) (hp : lo ≤ p) : NodesAt lo W v ns := by
  obtain ⟨hl, ho, hr⟩ := h
  rcases ho.2 with ⟨rfl, h0⟩ | ⟨g, cap, cur, rfl, hg, hh, h1, h2, h3, h4⟩
  · have : ns = [] := List.eq_nil_of_length_eq_zero h0
    subst this
    exact ⟨none, 0, rfl, by simp, fun h => absurd h (by simp)⟩
  · refine ⟨_, cap, rfl, Nat.le_trans h1 (maxLen_num h2), fun _ => ⟨g, 0, rfl, by omega, row_lt hh, fun i hi => ?_⟩⟩
    have hg := fun j (hj : j < 5) => (ho.cellAt (i * 5 + j) (by omega)).trans (ndC_get ns _ hi hj)
    rw [Nat.zero_add]
    refine ⟨hg 0 (by omega), ⟨vs.getD i nilS, hg 1 (by omega), ?_⟩, hg 2 (by omega), hg 3 (by omega), hg 4 (by omega)⟩
    exact ((hr i hi).1.to (U := fun b => lo ≤ b) fun b hb => Nat.le_trans hlo (ownsRow_blk (hr i hi).1 hb).1).at fun b hb => hb
theorem BrP.at {B p lo : Nat} {W : World} {v : Value} {bs : List BranchD} {nvs : List Value} {vss : List (List Value)} (h : BrP B p W v bs nvs vss) (hlo : lo ≤ B) (hp : lo ≤ p) : BranchesAt lo W v bs := by
  have ho := h.own
  rcases h.own.2 with ⟨rfl, h0⟩ | ⟨g, cap, cur, rfl, hg, hh, h1, h2, h3, h4⟩
  · have : bs = [] := List.eq_nil_of_length_eq_zero h0
    subst this
    exact BranchesAt.nil _ _
  · refine ⟨_, cap, rfl, Nat.le_trans h1 (maxLen_num h2), fun _ => ⟨g, 0, rfl, by omega, row_lt hh, fun i hi => ?_⟩⟩
    have hg := fun j (hj : j < 3) => (ho.cellAt (i * 3 + j) (by omega)).trans (brC_get bs _ hi hj)
    rw [Nat.zero_add]
    exact ⟨hg 0 (by omega), hg 1 (by omega), ⟨_, hg 2 (by omega), (h.nds i hi).at hlo hp⟩⟩
theorem ck_fault {l : List Tok} {size k : Nat} {v : Value} (h : CkA l size v) (hk : k < l.length) (h1 : ∀ j, j < k → faultF l j = 0) (h2 : faultF l k ≠ 0) : v = faultV (faultF l k) (l.getD k tokZ).pos := by
  cases h with
  | @fault k' hk' h1' h2' =>
    have : k' = k := by
      rcases Nat.lt_trichotomy k' k with e | e | e
      · exact absurd (h1 k' e) h2'
      · exact e
      · exact absurd (h1' k e) h2
    subst this
    rfl
  | op hf _ => exact absurd (hf k hk) h2
  | opn hf _ _ => exact absurd (hf k hk) h2
  | fine hf _ _ => exact absurd (hf k hk) h2
theorem ck_op {l : List Tok} {size : Nat} {v : Value} (h : CkA l size v) (hf : ∀ j, j < l.length → faultF l j = 0) (ho : opens (prevK l l.length)) : v = faultV 6 size := by
  cases h with
  | fault hk' _ h2' => exact absurd (hf _ hk') h2'
  | op _ _ => rfl
  | opn _ h _ => exact absurd ho h
  | fine _ h _ => exact absurd ho h
theorem ck_opn {l : List Tok} {size : Nat} {v : Value} (h : CkA l size v) (hf : ∀ j, j < l.length → faultF l j = 0) (ho : ¬opens (prevK l l.length)) (hd : 0 < depI l l.length) : v = faultV 8 (l.getD ((stkN l l.length).getD ((stkN l l.length).length - 1) 0) tokZ).pos := by
  cases h with
  | fault hk' _ h2' => exact absurd (hf _ hk') h2'
  | op _ h => exact absurd h ho
  | opn _ _ _ => rfl
  | fine _ _ h => omega
theorem ck_fine {l : List Tok} {size : Nat} {v : Value} (h : CkA l size v) (hf : ∀ j, j < l.length → faultF l j = 0) (ho : ¬opens (prevK l l.length)) (hd : depI l l.length = 0) : v = .nilIface := by
  cases h with
  | fault hk' _ h2' => exact absurd (hf _ hk') h2'
  | op _ h => exact absurd h ho
  | opn _ _ h => omega
  | fine _ _ _ => rfl
/-- What readRule answers. -/
def RrA (w : World) (r : RuleD) (c a : Int) (e : Ending) (w' : World) : Prop := Below w.heap.size w w' ∧
  ((c ≠ 0 ∧ ∃ i : Nat, a = (i : Int) ∧ e = .returned (.tuple #[.agg #[.slice none 0 0, .int .i64 0], faultV c i]) ∧ r = .zero) ∨
   (c = 0 ∧ a = 0 ∧ ∃ v p nvs vss, e = .returned (.tuple #[.agg #[v, .int .i64 r.groups], .nilIface]) ∧ BrP w.heap.size p w' v r.branches nvs vss ∧ w.heap.size ≤ p ∧ (vss.flatten.filterMap Value.ownBlock).Nodup))
theorem RrA.bad {w w' : World} {c a : Int} {i : Nat} (hc : c ≠ 0) (ha : a = (i : Int)) (hb : Below w.heap.size w w') : RrA w .zero c a (.returned (.tuple #[.agg #[.slice none 0 0, .int .i64 0], .iface 51 (.agg #[.int .i64 c, .int .i64 (i : Int)])])) w' := ⟨hb, .inl ⟨hc, i, ha, rfl, rfl⟩⟩
theorem classC : CmC := classMarks_ok
theorem allB_of {bs : List BranchD} (h : AllOK bs) : allB bs = true := by
  unfold allB
  rw [List.all_eq_true]
  intro b hb
  obtain ⟨k, hk, rfl⟩ := List.getElem_of_mem hb
  have h9 := h k hk
  rw [show bs.getD k .zero = bs[k] by simp [List.getD, hk]] at h9
  simp [h9.1]
  simpa using h9.2
end Go.Proofs.YtgbdlgogccgciaaGreatDoor
namespace Go.Proofs.YtgbdlgogccgciaaGreatDoor
open Go.RowKit
attribute [local go_sem ↓] Go.wp_at_zero Go.wp_at_succ

theorem BrP.mono {B B' p : Nat} {W : World} {v : Value} {bs : List BranchD} {nvs : List Value} {vss : List (List Value)} (h : BrP B p W v bs nvs vss) (hB : B' ≤ B) : BrP B' p W v bs nvs vss :=
  ⟨h.l1, h.l2, h.own, fun k hk => ⟨(h.nds k hk).1, (h.nds k hk).2.1, fun j hj => ⟨ownsRow_mono ((h.nds k hk).2.2 j hj).1 hB, ((h.nds k hk).2.2 j hj).2⟩⟩, h.nd, h.ne⟩
theorem TkA.ge {B : Nat} {W : World} {G : Nat} {l : List Tok} {sv : Nat → Value} (h : TkA B W G l sv) {k b : Nat} (hk : k < l.length) (hb : (sv k).ownBlock = some b) : B ≤ b := by
  by_cases hz : kAt l k = 0
  · exact (ownsRow_blk (h.set k hk hz) hb).1
  · rw [h.nil k hk hz] at hb; cases hb
set_option maxRecDepth 100000 in
set_option maxHeartbeats 2000000 in
theorem readRule_long (t : ByteArray) (w : World) (h : 2000 < t.size) :
    Calls Tryz.prog 17 #[.string t] w (RrA w .zero 1 2000) := by
  have h1 : (2000 : Int) < (t.size : Int) := by omega
  go_enter Tryz.func17, Tryz.ntmps17
  go_wp2
  exact bodyPost_ret (v := .tuple #[.agg #[.slice none 0 0, .int .i64 0], .iface 51 (.agg #[.int .i64 1, .int .i64 ((2000 : Nat) : Int)])]) (by simp [results, Tryz.results17, go_sem]) rfl (.bad (by omega) rfl ((Below.refl _ _).alloc (Nat.le_refl _) _))
set_option maxRecDepth 100000 in
set_option maxHeartbeats 2000000 in
theorem readRule_lex (t : ByteArray) (m : Int) (w : World) (hs : t.size ≤ 2000) (hm : w.cell? ⟨1, 0, none⟩ = some (.int .i64 m)) (hm1 : 1 < w.heap.size) {l : List Tok} {c : Int} {i : Nat} (hl : lexF t.data.toList 0 [] = (l, c, i)) (hc : c ≠ 0) :
    Calls Tryz.prog 17 #[.string t] w (RrA w .zero c (i : Int)) := by
  have h1 : ¬(2000 : Int) < (t.size : Int) := by omega
  obtain ⟨W0, hW0⟩ : ∃ W0, W0 = w.alloc (.cells #[.slice none 0 0, .int .i64 0] 24) := ⟨_, rfl⟩
  have hr0 : W0.heap[w.heap.size]? = some (.cells #[.slice none 0 0, .int .i64 0] 24 (0, 0)) := by rw [hW0]; exact heap_alloc_new _ _
  have hb0 : Below w.heap.size w W0 := by rw [hW0]; exact (Below.refl _ _).alloc (Nat.le_refl _) _
  have hm0 : W0.cell? ⟨1, 0, none⟩ = some (.int .i64 m) := by rw [World.cell?_of_block (w := w) (hb0.block 1 hm1)]; exact hm
  have hC := readTokens_ok classC t m W0 hs hm0 (Nat.lt_of_lt_of_le hm1 hb0.size)
  have hC2 : Calls Tryz.prog 30 #[.string t] W0 fun e w' => e = .returned (.tuple #[.slice none 0 0, .iface 51 (.agg #[.int .i64 c, .int .i64 (i : Int)])]) ∧ Below W0.heap.size W0 w' := hC.mono fun e w' h => ⟨(h.2 l c i hl).1 hc, h.1⟩
  have HC := hid hc
  clear hC hl hm hm0 hc
  go_enter Tryz.func17, Tryz.ntmps17
  go_wp2_with fail
  rw [← hW0]
  clear hW0
  refine hC2.mono ?_
  rintro e w1 ⟨rfl, hb1⟩
  obtain ⟨r0, r1, f0, f1⟩ := row_twoE (row_below hr0 hb1)
  have HB := hid (below_step hb0 hb0.size hb1)
  clear hC2 hb1
  go_wp2
  exact bodyPost_ret (v := .tuple #[.agg #[.slice none 0 0, .int .i64 0], .iface 51 (.agg #[.int .i64 c, .int .i64 (i : Int)])]) (by simp [results, Tryz.results17, go_sem, r0, r1]) rfl (.bad HC.out rfl ((HB.out.setCell (Nat.le_refl _) _).setCell (Nat.le_refl _) _))
set_option maxRecDepth 100000 in
set_option maxHeartbeats 2000000 in
theorem readRule_order (t : ByteArray) (m : Int) (w : World) (hs : t.size ≤ 2000) (hm : w.cell? ⟨1, 0, none⟩ = some (.int .i64 m)) (hm1 : 1 < w.heap.size) {l : List Tok} {c : Int} {i : Nat} (hl : lexF t.data.toList 0 [] = (l, 0, 0)) (hc : c ≠ 0) (hk : ∀ v, CkA l t.size v → v = faultV c i) :
    Calls Tryz.prog 17 #[.string t] w (RrA w .zero c (i : Int)) := by
  have h1 : ¬(2000 : Int) < (t.size : Int) := by omega
  obtain ⟨W0, hW0⟩ : ∃ W0, W0 = w.alloc (.cells #[.slice none 0 0, .int .i64 0] 24) := ⟨_, rfl⟩
  have hr0 : W0.heap[w.heap.size]? = some (.cells #[.slice none 0 0, .int .i64 0] 24 (0, 0)) := by rw [hW0]; exact heap_alloc_new _ _
  have hb0 : Below w.heap.size w W0 := by rw [hW0]; exact (Below.refl _ _).alloc (Nat.le_refl _) _
  have hm0 : W0.cell? ⟨1, 0, none⟩ = some (.int .i64 m) := by rw [World.cell?_of_block (w := w) (hb0.block 1 hm1)]; exact hm
  have hC := readTokens_ok classC t m W0 hs hm0 (Nat.lt_of_lt_of_le hm1 hb0.size)
  have hC2 : Calls Tryz.prog 30 #[.string t] W0 fun e w' => ∃ G cap sv, e = .returned (.tuple #[.slice (some ⟨G, 0, none⟩) l.length cap, .nilIface]) ∧ TkA W0.heap.size w' G l sv ∧ Below W0.heap.size W0 w' := hC.mono fun e w' h => by
    obtain ⟨G, cap, sv, h1, h2, _⟩ := (h.2 l 0 0 hl).2 rfl
    exact ⟨G, cap, sv, h1, h2, h.1⟩
  have HC := hid hc
  have HK := hid hk
  clear hC hl hm hm0 hc hk
  go_enter Tryz.func17, Tryz.ntmps17
  go_wp2_with fail
  rw [← hW0]
  clear hW0
  refine hC2.mono ?_
  rintro e w1 ⟨G, cap, sv, rfl, hA, hb1⟩
  have hO := checkOrder_ok (c := cap) t.size w1 hA.tok hA.few
  have hr1 := row_below hr0 hb1
  have hbb1 := below_step hb0 hb0.size hb1
  clear hC2 hb1 hA
  go_wp2_with fail
  refine hO.mono ?_
  rintro e w2 ⟨v, rfl, hv, hb2⟩
  have hv2 := HK.out v hv
  subst hv2
  unfold faultV
  obtain ⟨r0, r1, f0, f1⟩ := row_twoE (row_below hr1 hb2)
  have HB := hid (below_step hbb1 hbb1.size hb2)
  clear hO hb2 hv
  go_wp2
  exact bodyPost_ret (v := .tuple #[.agg #[.slice none 0 0, .int .i64 0], .iface 51 (.agg #[.int .i64 c, .int .i64 (i : Int)])]) (by simp [results, Tryz.results17, go_sem, r0, r1]) rfl (.bad HC.out rfl ((HB.out.setCell (Nat.le_refl _) _).setCell (Nat.le_refl _) _))
theorem infoRuleP : (Tryz.prog.info? 24).map (fun i => (i.zero, i.size, i.bytes)) = some (some (.agg #[.slice none 0 0, .int .i64 0]), 2, 32) := by kernel_rfl
set_option maxRecDepth 100000 in
set_option maxHeartbeats 4000000 in
theorem readRule_rule (t : ByteArray) (m : Int) (w : World) (hs : t.size ≤ 2000) (hm : w.cell? ⟨1, 0, none⟩ = some (.int .i64 m)) (hm1 : 1 < w.heap.size) {l : List Tok} {bs : List BranchD} {g : Nat} (hl : lexF t.data.toList 0 [] = (l, 0, 0)) (hf : ∀ j, j < l.length → faultF l j = 0) (ho : ¬opens (prevK l l.length)) (hd : depI l l.length = 0) (hR : Rl 0 l bs g) :
    Calls Tryz.prog 17 #[.string t] w fun e w' => (2000 < ruleW bs → RrA w .zero 10 0 e w') ∧ (ruleW bs ≤ 2000 → RrA w ⟨bs, (g : Int)⟩ 0 0 e w') := by
  have h1 : ¬(2000 : Int) < (t.size : Int) := by omega
  have hll := lexF_ok t.data.toList t.data.toList.length 0 [] (by omega) (fun _ h => by cases h) (Nat.le_refl _) (Nat.zero_le _)
  rw [hl] at hll
  have hlen : t.data.toList.length = t.size := Array.length_toList
  obtain ⟨hAO, hSm⟩ := rl_all hR (fun x hx => (hll.1 x hx).1) (by have := hll.2.1; simp at this; omega)
  have hAB := allB_of hAO
  obtain ⟨W0, hW0⟩ : ∃ W0, W0 = w.alloc (.cells #[.slice none 0 0, .int .i64 0] 24) := ⟨_, rfl⟩
  have hr0 : W0.heap[w.heap.size]? = some (.cells #[.slice none 0 0, .int .i64 0] 24 (0, 0)) := by rw [hW0]; exact heap_alloc_new _ _
  have hb0 : Below w.heap.size w W0 := by rw [hW0]; exact (Below.refl _ _).alloc (Nat.le_refl _) _
  have hm0 : W0.cell? ⟨1, 0, none⟩ = some (.int .i64 m) := by rw [World.cell?_of_block (w := w) (hb0.block 1 hm1)]; exact hm
  have hC := readTokens_ok classC t m W0 hs hm0 (Nat.lt_of_lt_of_le hm1 hb0.size)
  have hC2 : Calls Tryz.prog 30 #[.string t] W0 fun e w' => ∃ G cap sv, e = .returned (.tuple #[.slice (some ⟨G, 0, none⟩) l.length cap, .nilIface]) ∧ TkA W0.heap.size w' G l sv ∧ (blF sv 0 l.length).Nodup ∧ Below W0.heap.size W0 w' := hC.mono fun e w' h => by
    obtain ⟨G, cap, sv, h1, h2, h3⟩ := (h.2 l 0 0 hl).2 rfl
    exact ⟨G, cap, sv, h1, h2, h3, h.1⟩
  have HK := hid (fun v (hv : CkA l t.size v) => ck_fine hv hf ho hd)
  have HRl := hid hR
  have HSM := hid hSm
  have HAB := hid hAB
  clear hC hl hm hm0 hf ho hd hR hll hlen hAO hSm hAB
  go_enter Tryz.func17, Tryz.ntmps17
  go_wp2_with fail
  rw [← hW0]
  clear hW0
  refine hC2.mono ?_
  rintro e w1 ⟨G, cap, sv, rfl, hA, hnd, hb1⟩
  have hO := checkOrder_ok (c := cap) t.size w1 hA.tok hA.few
  have hr1 := row_below hr0 hb1
  have hbb1 := below_step hb0 hb0.size hb1
  have hS01 := hb1.size
  have HA := hid hA
  have HND := hid hnd
  clear hC2 hb1 hA hnd
  go_wp2_with fail
  refine hO.mono ?_
  rintro e w2 ⟨v, rfl, hv, hb2⟩
  have hv2 := HK.out v hv
  subst hv2
  have hA2 := HA.out.below hb2
  have hr2 := row_below hr1 hb2
  have hbb2 := below_step hbb1 hbb1.size hb2
  have hS12 := hb2.size
  have hW := writeRule_ok (c := cap) w2 HRl.out hA2
  clear hO hb2 hv
  go_wp2_with fail
  refine hW.mono ?_
  rintro e w3 ⟨v3, nvs, vss, rfl, hB3, hb3, hbl⟩
  have hvf : ∃ ao vn vc, v3 = .slice ao vn vc := by
    rcases hB3.own.2 with ⟨e, _⟩ | ⟨g, cap, _, e, _⟩
    · exact ⟨_, _, _, e⟩
    · exact ⟨_, _, _, e⟩
  obtain ⟨ao, vn, vc, rfl⟩ := hvf
  have hr3 := row_below hr2 hb3
  have hbb3 := below_step hbb2 hbb2.size hb3
  clear hW
  obtain ⟨W4, hW4⟩ : ∃ W4, W4 = w3.alloc (.cells #[.slice ao vn vc, .int .i64 (g : Int)] 24) := ⟨_, rfl⟩
  have hb4 : Below w3.heap.size w3 W4 := by rw [hW4]; exact (Below.refl _ _).alloc (Nat.le_refl _) _
  have hq4 : W4.heap[w3.heap.size]? = some (.cells #[.slice ao vn vc, .int .i64 (g : Int)] 24 (0, 0)) := by rw [hW4]; exact heap_alloc_new _ _
  have hs0 : W0.heap.size ≤ w2.heap.size := Nat.le_trans hS01 hS12
  have hB4 : BrP W0.heap.size (w2.heap.size + 1) W4 (.slice ao vn vc) bs nvs vss := hB3.keepB fun b _ hl => hb4.block b hl
  have hL := liftBranches_ok (lo := W0.heap.size) _ bs W4 (hB4.at (Nat.le_refl _) (by omega)) HSM.out
  obtain ⟨x0, x1, -, -⟩ := row_twoE hq4
  have hr4 := row_below hr3 hb4
  have hbb4 := below_step hbb3 hbb3.size hb4
  have HB4 := hid hB4
  have HBL := hid hbl
  have HQ4 := hid hq4
  have Hr4 := hid hr4
  clear hB3 hB4 hbl hq4 hr4
  go_wp2_with fail
  try rw [← hW4]
  clear hW4 hb4 hr3 hr2 hr1
  refine hL.mono ?_
  rintro e w5 ⟨hb5, hcase⟩
  have hla := liftAll_ok bs HAB.out
  rcases hcase with ⟨hn, _⟩ | ⟨st, xs, N, pg, sc, hst, hsl, rfl, hown, hparts⟩
  · rw [hla] at hn; cases hn
  rw [hla] at hst
  have hst2 : bs.map wLast = st := by injection hst
  have hwt := weightOfAll_ok st xs w5 hown hparts (by have := HSM.out.1; omega)
  have hws := weights_same bs HAB.out
  rw [hst2] at hws
  have HWS := hid hws
  have hr5 := row_below Hr4.out hb5
  have hq5 := row_below HQ4.out hb5
  have HB5 := hid (HB4.out.keepB (w' := w5) fun b _ hl => hb5.block b hl)
  have hbb5 := below_step hbb4 hbb4.size hb5
  generalize sumCap st = S at *
  generalize st.length = SL at *
  clear hL hla hst hst2 hown hparts hws hb5 x0 x1 hsl
  go_wp2_with fail
  refine hwt.mono ?_
  rintro e w6 ⟨rfl, hb6⟩
  have hr6 := row_below hr5 hb6
  have hq6 := row_below hq5 hb6
  have HB6 := hid (HB5.out.keepB (w' := w6) fun b _ hl => hb6.block b hl)
  have HBB := hid (below_step hbb5 hbb5.size hb6)
  obtain ⟨r0, r1, f0, f1⟩ := row_twoE hr6
  obtain ⟨y0, y1, -, -⟩ := row_twoE hq6
  have hne : w3.heap.size ≠ w.heap.size := by have := row_lt hr0; have := hb3.size; omega
  clear hwt hb6 hr5 hq5 hr6 hq6
  by_cases hS : S ≤ 2000
  · have hSI : ¬(2000 : Int) < S := by omega
    have hrw : ruleW bs ≤ 2000 := by have h9 := HWS.out; rw [decide_eq_true hS] at h9; exact of_decide_eq_true h9.symm
    have HF : Hid (∀ W, W = (w6.setCell ⟨w.heap.size, 0, none⟩ (.slice ao vn vc)).setCell ⟨w.heap.size, 1, none⟩ (.int .i64 (g : Int)) → RrA w ⟨bs, (g : Int)⟩ 0 0 (.returned (.tuple #[.agg #[.slice ao vn vc, .int .i64 (g : Int)], .nilIface])) W) := by
      intro W hW
      refine ⟨by rw [hW]; exact (HBB.out.setCell (Nat.le_refl _) _).setCell (Nat.le_refl _) _, .inr ⟨rfl, rfl, _, _, _, _, rfl, (HB6.out.keepC fun b hb hl => ?_).mono hb0.size, Nat.le_succ_of_le hbb2.size, by rw [HBL.out]; exact HND.out⟩⟩
      have hbn : b ≠ w.heap.size := by
        have hlt := row_lt hr0
        rcases hb with hb | hb | hb
        · have := (HB6.out.vlt b hb).1; omega
        · have := (HB6.out.lt b hb).1; omega
        · rw [HBL.out] at hb
          obtain ⟨k, _, hk, hb⟩ := blF_mem hb
          have := HA.out.ge (by omega) hb
          omega
      rw [hW, heap_setCell_other _ _ _ _ hbn, heap_setCell_other _ _ _ _ hbn]
    clear hS
    go_wp2
    exact bodyPost_ret (v := .tuple #[.agg #[.slice ao vn vc, .int .i64 (g : Int)], .nilIface]) (by simp [results, Tryz.results17, go_sem, r0, r1]) rfl ⟨fun h => absurd h (by omega), fun _ => HF.out _ rfl⟩
  · have hSI : (2000 : Int) < S := by omega
    have hrw : ¬ruleW bs ≤ 2000 := by have h9 := HWS.out; rw [decide_eq_false hS] at h9; exact of_decide_eq_false h9.symm
    clear hS
    go_wp2
    exact bodyPost_ret (v := .tuple #[.agg #[.slice none 0 0, .int .i64 0], .iface 51 (.agg #[.int .i64 10, .int .i64 ((0 : Nat) : Int)])]) (by simp [results, Tryz.results17, go_sem, r0, r1]) rfl ⟨fun _ => .bad (by omega) rfl ((HBB.out.setCell (Nat.le_refl _) _).setCell (Nat.le_refl _) _), fun h => absurd h (by omega)⟩
theorem readRule_ok (t : ByteArray) (m : Int) (w : World) (hm : w.cell? ⟨1, 0, none⟩ = some (.int .i64 m)) (hm1 : 1 < w.heap.size) {r : RuleD} {c a : Int} (h : ParseR t.data.toList r c a) : Calls Tryz.prog 17 #[.string t] w (RrA w r c a) := by
  have hlen : t.data.toList.length = t.size := Array.length_toList
  cases h with
  | long h => exact readRule_long t w (by omega)
  | lex h hl hc => exact readRule_lex t m w (by omega) hm hm1 hl hc
  | fault h hl hk hj hf => exact readRule_order t m w (by omega) hm hm1 hl hf fun v hv => ck_fault hv hk hj hf
  | op h hl hf ho => rw [hlen]; exact readRule_order t m w (by omega) hm hm1 hl (by omega) fun v hv => ck_op hv hf ho
  | opn h hl hf ho hd => exact readRule_order t m w (by omega) hm hm1 hl (by omega) fun v hv => ck_opn hv hf ho hd
  | heavy h hl hf ho hd hR hw => exact (readRule_rule t m w (by omega) hm hm1 hl hf ho hd hR).mono fun e w' h => h.1 hw
  | good h hl hf ho hd hR hw => exact (readRule_rule t m w (by omega) hm hm1 hl hf ho hd hR).mono fun e w' h => h.2 (by omega)
end Go.Proofs.YtgbdlgogccgciaaGreatDoor
