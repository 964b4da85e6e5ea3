import Derived.Test.YtgbdlgogccgciaaGreatDoorKids
import Derived.Deep.RegionHeld3
import Derived.Deep.DrawnRows
namespace Go.Proofs.YtgbdlgogccgciaaGreatDoor
open Go.RowKit

/-- The stack of weights ahead of node i, bottom first; the weight of node i. -/
def wstk (ns : List NodeD) : Nat → List Int
  | 0 => []
  | i + 1 => wstep (wstk ns i) (ns.getD i .zero)
def wOf (ns : List NodeD) (i : Nat) : Int := wnode (ns.getD i .zero) ((wstk ns i).drop ((wstk ns i).length - arity (kindAt ns i)))

theorem stk_map (ns : List NodeD) : ∀ i, (stk ns i).map (wOf ns) = wstk ns i
  | 0 => rfl
  | i + 1 => by
    have ih := stk_map ns i
    have hl : (stk ns i).length = (wstk ns i).length := by rw [← ih, List.length_map]
    rw [stk, wstk, wstep, List.map_append, List.map_take, ih, hl]
    rfl
theorem stk_wlen (ns : List NodeD) (i : Nat) : (wstk ns i).length = (stk ns i).length := by rw [← stk_map, List.length_map]
theorem wstk_get (ns : List NodeD) (i j : Nat) (h : j < (stk ns i).length) : (wstk ns i).getD j 0 = wOf ns ((stk ns i).getD j 0) := by
  rw [← stk_map]
  simp [List.getD_eq_getElem?_getD, h]

theorem liftW_none : ∀ (ns : List NodeD) (st : List Int), liftW ns st = none → kidsD ns st.length = none ∨ ns.all nodeB = false
  | [], st, h => by cases h
  | n :: ns, st, h => by
    unfold liftW at h
    by_cases hc : st.length < arity n.kind ∨ nodeB n = false
    · rcases hc with hc | hc
      · left; unfold kidsD; rw [if_pos hc]
      · right; simp [hc]
    · rw [if_neg hc] at h
      have hl : (wstep st n).length = st.length - arity n.kind + 1 := by simp [wstep]
      rcases liftW_none ns (wstep st n) h with h1 | h1
      · left; unfold kidsD; rw [if_neg (fun q => hc (.inl q)), ← hl]; exact h1
      · right; simp only [List.all_cons, h1, Bool.and_false]
theorem liftW_some : ∀ (ns : List NodeD) (st st' : List Int), liftW ns st = some st' → kidsD ns st.length = some st'.length ∧ ns.all nodeB = true
  | [], st, st', h => by cases h; exact ⟨rfl, rfl⟩
  | n :: ns, st, st', h => by
    unfold liftW at h
    by_cases hc : st.length < arity n.kind ∨ nodeB n = false
    · rw [if_pos hc] at h; cases h
    · rw [if_neg hc] at h
      have hl : (wstep st n).length = st.length - arity n.kind + 1 := by simp [wstep]
      obtain ⟨h1, h2⟩ := liftW_some ns (wstep st n) st' h
      refine ⟨?_, ?_⟩
      · unfold kidsD; rw [if_neg (fun q => hc (.inl q)), ← hl]; exact h1
      · have : nodeB n = true := by
          cases hb : nodeB n
          · exact absurd (.inr hb) hc
          · rfl
        simp only [List.all_cons, h2, this, Bool.and_true]

theorem liftW_wstk (ns : List NodeD) (ha : ∀ i, i < ns.length → arity (kindAt ns i) ≤ (stk ns i).length) (hb : ns.all nodeB = true) : ∀ k, k ≤ ns.length → liftW ns [] = liftW (ns.drop k) (wstk ns k)
  | 0, _ => rfl
  | k + 1, hk => by
    rw [liftW_wstk ns ha hb k (by omega), liftW_drop ns k (by omega) (wstk ns k) _ rfl, if_neg]
    · rfl
    · have h1 := ha k (by omega)
      rintro (h | h)
      · rw [stk_wlen] at h
        unfold kindAt at h1
        omega
      · have : nodeB (ns.getD k .zero) = true := by
          have := List.all_eq_true.1 hb (ns.getD k .zero) (by
            rw [List.getD_eq_getElem?_getD, List.getElem?_eq_getElem (show k < ns.length by omega)]
            exact List.getElem_mem _)
          exact this
        rw [h] at this
        cases this

/-- What a branch comes to: its weight, where its order works out and its nodes are well formed. -/
theorem liftF_ok (ns : List NodeD) (hk : kidsB ns = true) (ha : ∀ i, i < ns.length → arity (kindAt ns i) ≤ (stk ns i).length) (hb : ns.all nodeB = true) : 0 < ns.length ∧ liftF ns = some (wOf ns (ns.length - 1)) := by
  have h1 := liftW_wstk ns ha hb ns.length (Nat.le_refl _)
  rw [List.drop_eq_nil_of_le (Nat.le_refl _), liftW] at h1
  have h2 := (liftW_some ns [] _ h1).1
  have h3 : (wstk ns ns.length).length = 1 := by
    unfold kidsB at hk
    have := eq_of_beq hk
    simp only [List.length_nil] at h2
    rw [h2] at this
    exact Option.some.inj this
  have hpos : 0 < ns.length := by
    rcases Nat.eq_zero_or_pos ns.length with h0 | h0
    · rw [h0] at h3; simp [wstk] at h3
    · exact h0
  refine ⟨hpos, ?_⟩
  obtain ⟨m, hm⟩ : ∃ m, ns.length = m + 1 := ⟨ns.length - 1, by omega⟩
  rw [hm] at h1 h3 ⊢
  unfold liftF
  rw [h1]
  have h4 := stk_map ns (m + 1)
  have h5 : stk ns (m + 1) = [m] := by
    have hl := stk_wlen ns (m + 1)
    rw [h3] at hl
    rw [stk] at hl ⊢
    match (stk ns m).take ((stk ns m).length - arity (kindAt ns m)), hl with
    | [], _ => rfl
    | _ :: _, hl => simp at hl
  rw [h5] at h4
  rw [← h4]
  rfl
theorem liftF_no (ns : List NodeD) (h : kidsB ns = false ∨ ns.all nodeB = false) : liftF ns = none := by
  unfold liftF
  cases hq : liftW ns [] with
  | none => rfl
  | some st =>
    obtain ⟨h1, h2⟩ := liftW_some ns [] st hq
    rcases h with h | h
    · unfold kidsB at h
      simp only [List.length_nil] at h1
      rw [h1] at h
      match st with
      | [] => rfl
      | [a] => simp at h
      | _ :: _ :: _ => rfl
    · rw [h2] at h; cases h

/-- A node's weight is between 1 and 2001, where all is well formed. -/
theorem wOf_bd (ns : List NodeD) (ha : ∀ i, i < ns.length → arity (kindAt ns i) ≤ (stk ns i).length) (hb : ns.all nodeB = true) : ∀ n i, i < n → i < ns.length → 1 ≤ wOf ns i ∧ wOf ns i ≤ 2001
  | 0, _, h, _ => absurd h (Nat.not_lt_zero _)
  | n + 1, i, _, hi => by
    have hnode : nodeB (ns.getD i .zero) = true := List.all_eq_true.1 hb (ns.getD i .zero) (by
      rw [List.getD_eq_getElem?_getD, List.getElem?_eq_getElem hi]
      exact List.getElem_mem _)
    have har := ha i hi
    have hget : ∀ j, j < (stk ns i).length → 1 ≤ (wstk ns i).getD j 0 ∧ (wstk ns i).getD j 0 ≤ 2001 := by
      intro j hj
      rw [wstk_get ns i j hj]
      have hmem : (stk ns i).getD j 0 ∈ stk ns i := by
        rw [List.getD_eq_getElem?_getD, List.getElem?_eq_getElem hj]
        exact List.getElem_mem _
      have hlt := stk_lt ns i _ hmem
      exact wOf_bd ns ha hb n _ (by omega) (by omega)
    unfold wOf
    generalize hnd : ns.getD i .zero = nd at *
    obtain ⟨k, rs, mn, mx, g⟩ := nd
    have hkd : kindAt ns i = k := by unfold kindAt; rw [hnd]
    rw [hkd] at har ⊢
    have hdrop0 := drop_one (wstk ns i) ((wstk ns i).length - arity k)
    have hl := stk_wlen ns i
    rcases node_kind hnode with rfl | rfl | rfl | rfl | rfl
    · simp [wnode]
    · have e := drop_two (wstk ns i) ((wstk ns i).length - arity 2)
      have a2 : arity 2 = 2 := rfl
      unfold wnode
      rw [if_neg (by simp), if_pos (by simp), e.1, e.2]
      have p := hget ((wstk ns i).length - arity 2) (by omega)
      have q := hget ((wstk ns i).length - arity 2 + 1) (by omega)
      exact capW_bd (by omega)
    · have e := drop_two (wstk ns i) ((wstk ns i).length - arity 3)
      have a2 : arity 3 = 2 := rfl
      unfold wnode
      rw [if_neg (by simp), if_pos (by simp), e.1, e.2]
      have p := hget ((wstk ns i).length - arity 3) (by omega)
      have q := hget ((wstk ns i).length - arity 3 + 1) (by omega)
      exact capW_bd (by omega)
    · have a2 : arity 4 = 1 := rfl
      unfold wnode
      rw [if_neg (by simp), if_neg (by simp), if_pos (by simp), hdrop0]
      have p := hget ((wstk ns i).length - arity 4) (by omega)
      have c := copies_bd (node_four hnode).2.1
      have hm : 1 * 1 ≤ (wstk ns i).getD ((wstk ns i).length - arity 4) 0 * copies mn mx := Int.mul_le_mul p.1 c.1 (by omega) (by omega)
      exact capW_bd (by simpa using hm)
    · have a2 : arity 5 = 1 := rfl
      unfold wnode
      rw [if_neg (by simp), if_neg (by simp), if_neg (by simp), hdrop0]
      exact hget ((wstk ns i).length - arity 5) (by omega)
end Go.Proofs.YtgbdlgogccgciaaGreatDoor
namespace Go.Proofs.YtgbdlgogccgciaaGreatDoor
open Go.RowKit
attribute [local go_sem ↓] Go.wp_at_zero Go.wp_at_succ

structure WInv (B : Nat) (w0 wr : World) (ns : List NodeD) (gl cl gr cr g k : Nat) : Prop where
  below : Below B w0 wr
  left : wr.ownsRow B 3 1 (.slice (some ⟨gl, 0, none⟩) ns.length cl) ns.length (rowL ns ns.length)
  right : wr.ownsRow B 3 1 (.slice (some ⟨gr, 0, none⟩) ns.length cr) ns.length (rowR ns ns.length)
  wrow : ∃ xs, wr.ownsRow B 3 1 (.slice (some ⟨g, 0, none⟩) ns.length ns.length) ns.length xs ∧ ∀ j, j < k → xs[j]? = some (.int .i64 (wOf ns j))
  lne : gl ≠ g
  rne : gr ≠ g
  base : B ≤ wr.heap.size

theorem WInv.same {B : Nat} {w0 wr w1 : World} {ns : List NodeD} {gl cl gr cr g k : Nat} (h : WInv B w0 wr ns gl cl gr cr g k) (hb : Below wr.heap.size wr w1) : WInv B w0 w1 ns gl cl gr cr g k :=
  ⟨below_step h.below h.base hb, ownsRow_below h.left hb, ownsRow_below h.right hb, by obtain ⟨xs, h1, h2⟩ := h.wrow; exact ⟨xs, ownsRow_below h1 hb, h2⟩, h.lne, h.rne, Nat.le_trans h.base hb.size⟩
theorem WInv.alloc {B : Nat} {w0 wr : World} {ns : List NodeD} {gl cl gr cr g k : Nat} (h : WInv B w0 wr ns gl cl gr cr g k) (o : Obj) : WInv B w0 (wr.alloc o) ns gl cl gr cr g k := h.same ((Below.refl _ _).alloc (Nat.le_refl _) _)
theorem WInv.drew {B : Nat} {w0 wr : World} {ns : List NodeD} {gl cl gr cr g k : Nat} (h : WInv B w0 wr ns gl cl gr cr g k) : WInv B w0 wr.drew ns gl cl gr cr g k := h.same (Below.refl _ _).drew
theorem WInv.store {B : Nat} {w0 wr : World} {ns : List NodeD} {gl cl gr cr g k : Nat} (h : WInv B w0 wr ns gl cl gr cr g k) (u : Value) : WInv B w0 (wr.setCell ⟨g, k, none⟩ u) ns gl cl gr cr g k := by
  obtain ⟨xs, h1, h2⟩ := h.wrow
  obtain ⟨s1, s2⟩ := h1.stored k u
  refine ⟨h.below.setCell (own_form h1).1 _, kept1 h.left s2 h.lne, kept1 h.right s2 h.rne, ⟨_, s1, fun j hj => ?_⟩, h.lne, h.rne, by simpa [World.setCell] using h.base⟩
  rw [List.getElem?_set_ne (by omega)]
  exact h2 j hj
theorem WInv.put {B : Nat} {w0 wr : World} {ns : List NodeD} {gl cl gr cr g k : Nat} (h : WInv B w0 wr ns gl cl gr cr g k) (hk : k < ns.length) {u : Int} (hu : u = wOf ns k) : WInv B w0 (wr.setCell ⟨g, k, none⟩ (.int .i64 u)) ns gl cl gr cr g (k + 1) := by
  subst hu
  obtain ⟨xs, h1, h2⟩ := h.wrow
  obtain ⟨s1, s2⟩ := h1.stored k (.int .i64 (wOf ns k))
  refine ⟨h.below.setCell (own_form h1).1 _, kept1 h.left s2 h.lne, kept1 h.right s2 h.rne, ⟨_, s1, fun j hj => ?_⟩, h.lne, h.rne, by simpa [World.setCell] using h.base⟩
  by_cases e : j = k
  · subst e
    rw [List.getElem?_set_self (by have := h1.1; omega)]
  · rw [List.getElem?_set_ne (by omega)]
    exact h2 j (by omega)
theorem WInv.cellW {B : Nat} {w0 wr : World} {ns : List NodeD} {gl cl gr cr g k : Nat} (h : WInv B w0 wr ns gl cl gr cr g k) {j : Nat} (hj : j < k) (hn : j < ns.length) : wr.cell? ⟨g, j, none⟩ = some (.int .i64 (wOf ns j)) := by
  obtain ⟨xs, h1, h2⟩ := h.wrow
  rw [h1.cellAt j (by omega)]
  exact h2 j hj
theorem WInv.cellK {B : Nat} {w0 wr : World} {ns : List NodeD} {gl cl gr cr g k : Nat} (h : WInv B w0 wr ns gl cl gr cr g k) (hn : k < ns.length) : (∃ u, wr.cell? ⟨g, k, none⟩ = some u) ∧ wr.frozen? ⟨g, k, none⟩ = false := by
  obtain ⟨xs, h1, h2⟩ := h.wrow
  exact ⟨own_cell h1 (by omega), h1.frozenAt k⟩
theorem WInv.cellL {B : Nat} {w0 wr : World} {ns : List NodeD} {gl cl gr cr g k : Nat} (h : WInv B w0 wr ns gl cl gr cr g k) (hn : k < ns.length) : wr.cell? ⟨gl, k, none⟩ = some (.int .i64 (leftOf ns k)) := by
  rw [h.left.cellAt k (by omega)]
  simp [rowL, hn]
theorem WInv.cellR {B : Nat} {w0 wr : World} {ns : List NodeD} {gl cl gr cr g k : Nat} (h : WInv B w0 wr ns gl cl gr cr g k) (hn : k < ns.length) : wr.cell? ⟨gr, k, none⟩ = some (.int .i64 (rightOf ns k)) := by
  rw [h.right.cellAt k (by omega)]
  simp [rowR, hn]
theorem WInv.lt {B : Nat} {w0 wr : World} {ns : List NodeD} {gl cl gr cr g k : Nat} (h : WInv B w0 wr ns gl cl gr cr g k) : gl < wr.heap.size ∧ gr < wr.heap.size ∧ g < wr.heap.size := by
  obtain ⟨xs, h1, h2⟩ := h.wrow
  exact ⟨own_lt h.left, own_lt h.right, own_lt h1⟩

/-- The operands of node k. -/
theorem kids_two {ns : List NodeD} {k : Nat} (ha : arity (kindAt ns k) = 2) (hl : 2 ≤ (stk ns k).length) : ∃ x y : Nat, leftOf ns k = x ∧ rightOf ns k = y ∧ x < k ∧ y < k ∧ (wstk ns k).drop ((wstk ns k).length - 2) = [wOf ns x, wOf ns y] := by
  have hm : ∀ j, j < (stk ns k).length → (stk ns k).getD j 0 < k := fun j hj => stk_lt ns k _ (by
    rw [List.getD_eq_getElem?_getD, List.getElem?_eq_getElem hj]
    exact List.getElem_mem _)
  refine ⟨(stk ns k).getD ((stk ns k).length - 2) 0, (stk ns k).getD ((stk ns k).length - 1) 0, ?_, ?_, hm _ (by omega), hm _ (by omega), ?_⟩
  · rw [leftOf, ha, if_neg (by omega)]
  · rw [rightOf, if_pos ha]
  · have hw := stk_wlen ns k
    have e1 := wstk_get ns k ((stk ns k).length - 2) (by omega)
    have e2 := wstk_get ns k ((stk ns k).length - 1) (by omega)
    rw [← e1, ← e2]
    apply List.ext_getElem?
    intro i
    rw [List.getElem?_drop]
    match i with
    | 0 => rw [hw, Nat.add_zero, List.getElem?_eq_getElem (by omega)]; simp [List.getD_eq_getElem?_getD, List.getElem?_eq_getElem (show (stk ns k).length - 2 < (wstk ns k).length by omega)]
    | 1 => rw [hw, show (stk ns k).length - 2 + 1 = (stk ns k).length - 1 by omega, List.getElem?_eq_getElem (by omega)]; simp [List.getD_eq_getElem?_getD, List.getElem?_eq_getElem (show (stk ns k).length - 1 < (wstk ns k).length by omega)]
    | i + 2 => rw [List.getElem?_eq_none (by omega)]; simp
theorem kids_one {ns : List NodeD} {k : Nat} (ha : arity (kindAt ns k) = 1) (hl : 1 ≤ (stk ns k).length) : ∃ x : Nat, leftOf ns k = x ∧ x < k ∧ ((wstk ns k).drop ((wstk ns k).length - 1)).getD 0 0 = wOf ns x := by
  have hm : ∀ j, j < (stk ns k).length → (stk ns k).getD j 0 < k := fun j hj => stk_lt ns k _ (by
    rw [List.getD_eq_getElem?_getD, List.getElem?_eq_getElem hj]
    exact List.getElem_mem _)
  refine ⟨(stk ns k).getD ((stk ns k).length - 1) 0, ?_, hm _ (by omega), ?_⟩
  · rw [leftOf, ha, if_neg (by omega)]
  · rw [drop_one, stk_wlen]
    exact wstk_get ns k ((stk ns k).length - 1) (by omega)
end Go.Proofs.YtgbdlgogccgciaaGreatDoor
