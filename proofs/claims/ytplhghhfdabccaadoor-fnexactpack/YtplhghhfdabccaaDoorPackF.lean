import Derived.Test.YtplhghhfdabccaaDoorRowA
import Derived.Test.YtplhghhfdabccaaDoorPackS
namespace Go.Proofs.YtplhghhfdabccaaDoor
open Go.RowKit

/- PACKING: the box of the automaton, the result's block, the table's block, seven rows and the exceptions. -/
structure PkSt (w : World) (D : Array Value) (gt : Nat) (width : Int) (W : World) (v : Nat → Value) (l : Nat → List Int) : Prop where
  below : Below w.heap.size w W
  over : w.heap.size + 1 < gt
  lt : gt < W.heap.size
  box : W.heap[w.heap.size]? = some (.cells D 30 (0, 0))
  res : W.heap[w.heap.size + 1]? = some (.cells zeroA 27 (0, 0))
  row : W.heap[gt]? = some (.cells (rowA width v) 27 (0, 0))
  fam : Fam gt 8 W v l
theorem PkSt.grow {w W W' : World} {D : Array Value} {gt : Nat} {width : Int} {v : Nat → Value} {l : Nat → List Int} (h : PkSt w D gt width W v l) (hb : Below W.heap.size W W') : PkSt w D gt width W' v l :=
  ⟨below_step h.below h.below.size hb, h.over, Nat.lt_of_lt_of_le h.lt hb.size, row_below h.box hb, row_below h.res hb, row_below h.row hb, h.fam.below hb⟩
/-- More in row i, the cells known. -/
theorem Fam.appends {gt n : Nat} {W W' : World} {v : Nat → Value} {l : Nat → List Int} (h : Fam gt n W v l) {i : Nat} (hi : i < n) {g cap : Nat} {ys : List Int}
    (own : W'.ownsRow (gt + 1) 3 1 (.slice (some ⟨g, 0, none⟩) ((l i).length + ys.length) cap) ((l i).length + ys.length) ((l i).map intV ++ ys.map intV)) (grow : W.grownBy W' (v i).ownBlock) (at' : (v i).ownBlock = some g ∨ W.heap.size ≤ g) :
    Fam gt n W' (upd v i (.slice (some ⟨g, 0, none⟩) ((l i).length + ys.length) cap)) (updL l i (l i ++ ys)) := by
  refine ⟨fun j hj => ?_, fun j k hj hk hne b hb => ?_⟩
  · by_cases e : j = i
    · subst e
      rw [upd_same, updL_same]
      unfold Owns
      rw [List.length_append, List.map_append]
      exact own
    · rw [upd_ne _ _ e, updL_ne _ _ e]
      refine owns_keep (h.own j hj) fun b hb => ?_
      have hlt := owns_block (h.own j hj) hb
      exact grow.block b hlt.2 (fun hc => h.apart j i hj hi e b hb hc.symm)
  · have key : ∀ j, j < n → j ≠ i → ∀ b, (v j).ownBlock = some b → b ≠ g := by
      intro j2 hj2 e2 b2 hb2 hbg
      rcases at' with a2 | a2
      · rw [← hbg] at a2; exact h.apart j2 i hj2 hi e2 b2 hb2 a2
      · have := (owns_block (h.own j2 hj2) hb2).2; omega
    by_cases e : j = i
    · subst e
      rw [upd_same] at hb
      rw [upd_ne _ _ (Ne.symm hne)]
      simp [Value.ownBlock] at hb
      subst hb
      intro hc
      exact key k hk (Ne.symm hne) _ hc rfl
    · rw [upd_ne _ _ e] at hb
      by_cases e2 : k = i
      · subst e2
        rw [upd_same]
        intro hc
        simp [Value.ownBlock] at hc
        exact key j hj e b hb hc.symm
      · rw [upd_ne _ _ e2]
        exact h.apart j k hj hk hne b hb
/-- The world behind an append to row i: all but the family's own is as it was. -/
theorem PkSt.grown {w W W1 W2 : World} {D : Array Value} {gt : Nat} {width : Int} {v : Nat → Value} {l : Nat → List Int} (h : PkSt w D gt width W v l) (hb : Below W.heap.size W W1) {i : Nat} (hi : i < 8) {g cap : Nat} {ys : List Int}
    (own : W2.ownsRow (gt + 1) 3 1 (.slice (some ⟨g, 0, none⟩) ((l i).length + ys.length) cap) ((l i).length + ys.length) ((l i).map intV ++ ys.map intV)) (grow : W1.grownBy W2 (v i).ownBlock) (at' : (v i).ownBlock = some g ∨ W1.heap.size ≤ g) :
    Below w.heap.size w W2 ∧ gt < W2.heap.size ∧ W2.heap[w.heap.size]? = some (.cells D 30 (0, 0)) ∧ W2.heap[w.heap.size + 1]? = some (.cells zeroA 27 (0, 0)) ∧ W2.heap[gt]? = some (.cells (rowA width v) 27 (0, 0)) ∧
      Fam gt 8 W2 (upd v i (.slice (some ⟨g, 0, none⟩) ((l i).length + ys.length) cap)) (updL l i (l i ++ ys)) := by
  have hz := hb.size
  have hlt := h.lt
  have hov := h.over
  have hfar : ∀ b, b ≤ gt → some b ≠ (v i).ownBlock := fun b hbg hc => by have := owns_block (h.fam.own i hi) hc.symm; omega
  have k1 : ∀ b, b ≤ gt → W2.heap[b]? = W.heap[b]? := fun b hbg => (grow.block b (by omega) (hfar b hbg)).trans (hb.block b (by omega))
  have hsz2 : W1.heap.size ≤ W2.heap.size := grow.size
  refine ⟨?_, by omega, (k1 _ (by omega)).trans h.box, (k1 _ (by omega)).trans h.res, (k1 _ (Nat.le_refl _)).trans h.row, Fam.appends (h.fam.below hb) hi own grow at'⟩
  exact (below_step h.below h.below.size hb).grown grow (Nat.le_trans h.below.size hz) (by
    intro k hk
    have := owns_block (h.fam.own i hi) hk
    omega)
theorem rowA_seven (width : Int) (v : Nat → Value) (u : Value) : rowA width (upd v 7 u) = rowA width v := rfl
theorem PkSt.store {w W : World} {D : Array Value} {gt : Nat} {width : Int} {v : Nat → Value} {l' : Nat → List Int} {i : Nat} (hi : i < 7) {u : Value} (hov : w.heap.size + 1 < gt)
    (h : Below w.heap.size w W ∧ gt < W.heap.size ∧ W.heap[w.heap.size]? = some (.cells D 30 (0, 0)) ∧ W.heap[w.heap.size + 1]? = some (.cells zeroA 27 (0, 0)) ∧ W.heap[gt]? = some (.cells (rowA width v) 27 (0, 0)) ∧ Fam gt 8 W (upd v i u) l') :
    PkSt w D gt width (W.setCell ⟨gt, offA i, none⟩ u) (upd v i u) l' := by
  obtain ⟨a, b, c, d, e, f⟩ := h
  refine ⟨a.setCell (by simp; omega) _, hov, by simpa [World.setCell] using b, ?_, ?_, ?_, f.set _ _⟩
  · rw [heap_setCell_other _ _ _ _ (by simp; omega)]; exact c
  · rw [heap_setCell_other _ _ _ _ (by simp; omega)]; exact d
  · rw [← rowA_set width v i hi]
    exact heap_setCell_same _ _ _ _ _ _ e

/-- 't.F = append(t.F, x)' of one number, F the table's field i: up to the store. -/
theorem wpList_pk_one {ops : Array Oper} {rest : List Oper} {o : Oper} {a : Act} {Q : Exit → Act → World → Prop} {w W : World} {D : Array Value} {gt : Nat} {width : Int} {v : Nat → Value} {l : Nat → List Int} (S : PkSt w D gt width W v l) (H : Nat) (hH : W.heap.size = H) (hgd : o.guard = none) (s x : Operand)
    (ho : o.op = .call { callee := .builtin .append, args := #[s, x], argTypes := #[22, 22] }) (i : Nat) (hi : i < 7) (off : Nat) (hoff : offA i = off) (xs : List Int) (hxs : l i = xs) (n : Nat) (hn : xs.length = n) (hs : a.eval s = v i) (y : Int) (hx : a.eval x = .slice (some ⟨H, 0, none⟩) 1 1) (hl : n ≤ 2000000)
    (h : ∀ g cap W', W'.heap[gt]? = some (.cells (rowA width v) 27 (0, 0)) → PkSt w D gt width (W'.setCell ⟨gt, off, none⟩ (.slice (some ⟨g, 0, none⟩) (n + 1) cap)) (upd v i (.slice (some ⟨g, 0, none⟩) (n + 1) cap)) (updL l i (xs ++ [y])) → wpList Tryd.prog ops Q rest (a.put o.dst (.slice (some ⟨g, 0, none⟩) (n + 1) cap)) W') :
    wpList Tryd.prog ops Q (o :: rest) a (W.alloc (.cells #[.int .i64 y] 3)) := by
  subst hH; subst hoff; subst hn; subst hxs
  obtain ⟨i0, hi0, hz0, hz1, hz2⟩ := info_parts Tryd.infoInt
  have hb : Below W.heap.size W (W.alloc (.cells #[.int .i64 y] 3)) := (Below.refl _ _).alloc (Nat.le_refl _) _
  have own : (W.alloc (.cells #[.int .i64 y] 3)).ownsRow (gt + 1) 3 1 (v i) (l i).length ((l i).map intV) := (S.fam.below hb).own i (by omega)
  refine wpList_append_lies _ hgd s x 22 ho (gt + 1) 3 i0 _ 1 8 Tryd.underlying22 hi0 hz0 hz1 hz2 rfl (by omega) (v i) (l i).length ((l i).map intV) hs own ⟨W.heap.size, 0, none⟩ 1 1 [.int .i64 y] hx rfl (one_new (heap_alloc_new _ _)) (by intro u hu; simp at hu; subst hu; rfl) (by omega) (by unfold maxLen; omega) (by omega) (by have := S.lt; simp; omega) (W.heap.size + 1) (by simp) ?_
  intro g cap W' own' grow' at' _
  have G := S.grown hb (i := i) (by omega) (ys := [y]) own' grow' (at'.imp id (fun h => by simp; omega))
  exact h g cap W' G.2.2.2.2.1 (PkSt.store hi S.over G)
/-- The same of the exceptions' list. -/
theorem wpList_pk_odd {ops : Array Oper} {rest : List Oper} {o : Oper} {a : Act} {Q : Exit → Act → World → Prop} {w W : World} {D : Array Value} {gt : Nat} {width : Int} {v : Nat → Value} {l : Nat → List Int} (S : PkSt w D gt width W v l) (H : Nat) (hH : W.heap.size = H) (hgd : o.guard = none) (s x : Operand)
    (ho : o.op = .call { callee := .builtin .append, args := #[s, x], argTypes := #[22, 22] }) (xs : List Int) (hxs : l 7 = xs) (n : Nat) (hn : xs.length = n) (hs : a.eval s = v 7) (y : Int) (hx : a.eval x = .slice (some ⟨H, 0, none⟩) 1 1) (hl : n ≤ 2000000)
    (h : ∀ g cap W', PkSt w D gt width W' (upd v 7 (.slice (some ⟨g, 0, none⟩) (n + 1) cap)) (updL l 7 (xs ++ [y])) → wpList Tryd.prog ops Q rest (a.put o.dst (.slice (some ⟨g, 0, none⟩) (n + 1) cap)) W') :
    wpList Tryd.prog ops Q (o :: rest) a (W.alloc (.cells #[.int .i64 y] 3)) := by
  subst hH; subst hn; subst hxs
  obtain ⟨i0, hi0, hz0, hz1, hz2⟩ := info_parts Tryd.infoInt
  have hb : Below W.heap.size W (W.alloc (.cells #[.int .i64 y] 3)) := (Below.refl _ _).alloc (Nat.le_refl _) _
  have own : (W.alloc (.cells #[.int .i64 y] 3)).ownsRow (gt + 1) 3 1 (v 7) (l 7).length ((l 7).map intV) := (S.fam.below hb).own 7 (by omega)
  refine wpList_append_lies _ hgd s x 22 ho (gt + 1) 3 i0 _ 1 8 Tryd.underlying22 hi0 hz0 hz1 hz2 rfl (by omega) (v 7) (l 7).length ((l 7).map intV) hs own ⟨W.heap.size, 0, none⟩ 1 1 [.int .i64 y] hx rfl (one_new (heap_alloc_new _ _)) (by intro u hu; simp at hu; subst hu; rfl) (by omega) (by unfold maxLen; omega) (by omega) (by have := S.lt; simp; omega) (W.heap.size + 1) (by simp) ?_
  intro g cap W' own' grow' at' _
  obtain ⟨p1, p2, p3, p4, p5, p6⟩ := S.grown hb (i := 7) (by omega) (ys := [y]) own' grow' (at'.imp id (fun h => by simp; omega))
  exact h g cap W' ⟨p1, S.over, p2, p3, p4, p5, p6⟩
/-- 't.F = append(t.F, list...)': F is empty as yet. -/
theorem wpList_pk_all {ops : Array Oper} {rest : List Oper} {o : Oper} {a : Act} {Q : Exit → Act → World → Prop} {w W : World} {D : Array Value} {gt : Nat} {width : Int} {v : Nat → Value} {l : Nat → List Int} (S : PkSt w D gt width W v l) (hgd : o.guard = none) (s x : Operand)
    (ho : o.op = .call { callee := .builtin .append, args := #[s, x], argTypes := #[22, 22] }) (i : Nat) (hi : i < 7) (off : Nat) (hoff : offA i = off) (hxs : l i = []) (hs : a.eval s = v i) (ys : List Int) (b q cc n : Nat) (hn : ys.length = n) (hx : a.eval x = .slice (some ⟨b, q, none⟩) n cc) (hc : ∀ j, j < ys.length → W.cell? ⟨b, q + j, none⟩ = some (.int .i64 (ys.getD j 0))) (h0 : 0 < n) (hl : n ≤ 2000000)
    (h : ∀ g cap W', W'.heap[gt]? = some (.cells (rowA width v) 27 (0, 0)) → Below w.heap.size w W' → W'.heap[w.heap.size]? = some (.cells D 30 (0, 0)) → PkSt w D gt width (W'.setCell ⟨gt, off, none⟩ (.slice (some ⟨g, 0, none⟩) n cap)) (upd v i (.slice (some ⟨g, 0, none⟩) n cap)) (updL l i ys) → wpList Tryd.prog ops Q rest (a.put o.dst (.slice (some ⟨g, 0, none⟩) n cap)) W') :
    wpList Tryd.prog ops Q (o :: rest) a W := by
  subst hoff; subst hn
  obtain ⟨i0, hi0, hz0, hz1, hz2⟩ := info_parts Tryd.infoInt
  have own : W.ownsRow (gt + 1) 3 1 (v i) 0 [] := by
    have := S.fam.own i (by omega)
    unfold Owns at this
    rw [hxs] at this
    exact this
  refine wpList_append_lies _ hgd s x 22 ho (gt + 1) 3 i0 _ 1 8 Tryd.underlying22 hi0 hz0 hz1 hz2 rfl (by omega) (v i) 0 [] hs own ⟨b, q, none⟩ ys.length cc (ys.map intV) hx (by simp) ?_ (by intro u hu; simp at hu; obtain ⟨y, _, rfl⟩ := hu; rfl) (by omega) (by unfold maxLen; omega) (by omega) (by have := S.lt; omega) W.heap.size rfl ?_
  · intro j u hu
    have hj : j < ys.length := by
      have := (List.getElem?_eq_some_iff.1 hu).1
      simpa using this
    have e : (⟨b, q, none⟩ : Addr).add j = ⟨b, q + j, none⟩ := by unfold Addr.add; split <;> simp_all
    rw [e, hc j hj, ← hu]
    simp [List.getD, hj, intV]
  intro g cap W' own' grow' at' _
  rw [Nat.zero_add] at own'
  have own2 : W'.ownsRow (gt + 1) 3 1 (.slice (some ⟨g, 0, none⟩) ((l i).length + ys.length) cap) ((l i).length + ys.length) ((l i).map intV ++ ys.map intV) := by
    rw [hxs]; simpa using own'
  have G := S.grown (Below.refl _ _) (i := i) (by omega) (ys := ys) own2 grow' (at'.imp id (fun h => by omega))
  rw [hxs] at G
  simp only [List.length_nil, Nat.zero_add, List.nil_append] at G
  have := h g cap W' G.2.2.2.2.1 G.1 G.2.2.1 (PkSt.store hi S.over G)
  rw [Nat.zero_add]
  exact this
/-- A fresh list of exceptions. -/
theorem PkSt.fresh {w W : World} {D : Array Value} {gt : Nat} {width : Int} {v : Nat → Value} {l : Nat → List Int} (S : PkSt w D gt width W v l) : PkSt w D gt width (W.alloc (.cells #[] 3)) (upd v 7 (.slice (some ⟨W.heap.size, 0, none⟩) 0 0)) (updL l 7 []) := by
  have S' := S.grow ((Below.refl _ _).alloc (Nat.le_refl _) (.cells #[] 3))
  refine ⟨S'.below, S'.over, S'.lt, S'.box, S'.res, S'.row, ⟨fun j hj => ?_, fun j k hj hk hne b hb => ?_⟩⟩
  · by_cases e : j = 7
    · subst e
      rw [upd_same, updL_same]
      exact ownsRow_new_at W 3 (gt + 1) W.heap.size (by have := S.lt; omega) rfl
    · rw [upd_ne _ _ e, updL_ne _ _ e]
      exact S'.fam.own j hj
  · have key : ∀ j, j < 8 → ∀ b, (v j).ownBlock = some b → b ≠ W.heap.size := fun j hj b hb => by
      have := (owns_block (S.fam.own j hj) hb).2
      omega
    by_cases e : j = 7
    · subst e
      rw [upd_same] at hb
      rw [upd_ne _ _ (Ne.symm hne)]
      simp [Value.ownBlock] at hb
      subst hb
      intro hc
      exact key k hk _ hc rfl
    · rw [upd_ne _ _ e] at hb
      by_cases e2 : k = 7
      · subst e2
        rw [upd_same]
        intro hc
        simp [Value.ownBlock] at hc
        exact key j hj b hb hc.symm
      · rw [upd_ne _ _ e2]
        exact S'.fam.apart j k hj hk hne b hb

/-- The lists of the table under way. -/
def pkL (c t f : List Int) (L : Lay) (odd : List Int) : Nat → List Int
  | 0 => c
  | 1 => L.base
  | 2 => L.dflt
  | 3 => t
  | 4 => f
  | 5 => L.next
  | 6 => L.chk
  | 7 => odd
  | _ => []
theorem pkL_upd1 (c t f : List Int) (L : Lay) (odd x : List Int) : updL (pkL c t f L odd) 1 x = pkL c t f ⟨x, L.dflt, L.next, L.chk⟩ odd := by
  funext j; match j with
  | 0 => rfl
  | 1 => rfl
  | 2 => rfl
  | 3 => rfl
  | 4 => rfl
  | 5 => rfl
  | 6 => rfl
  | 7 => rfl
  | j + 8 => rfl
theorem pkL_upd2 (c t f : List Int) (L : Lay) (odd x : List Int) : updL (pkL c t f L odd) 2 x = pkL c t f ⟨L.base, x, L.next, L.chk⟩ odd := by
  funext j; match j with
  | 0 => rfl
  | 1 => rfl
  | 2 => rfl
  | 3 => rfl
  | 4 => rfl
  | 5 => rfl
  | 6 => rfl
  | 7 => rfl
  | j + 8 => rfl
theorem pkL_upd5 (c t f : List Int) (L : Lay) (odd x : List Int) : updL (pkL c t f L odd) 5 x = pkL c t f ⟨L.base, L.dflt, x, L.chk⟩ odd := by
  funext j; match j with
  | 0 => rfl
  | 1 => rfl
  | 2 => rfl
  | 3 => rfl
  | 4 => rfl
  | 5 => rfl
  | 6 => rfl
  | 7 => rfl
  | j + 8 => rfl
theorem pkL_upd6 (c t f : List Int) (L : Lay) (odd x : List Int) : updL (pkL c t f L odd) 6 x = pkL c t f ⟨L.base, L.dflt, L.next, x⟩ odd := by
  funext j; match j with
  | 0 => rfl
  | 1 => rfl
  | 2 => rfl
  | 3 => rfl
  | 4 => rfl
  | 5 => rfl
  | 6 => rfl
  | 7 => rfl
  | j + 8 => rfl
theorem pkL_upd7 (c t f : List Int) (L : Lay) (odd x : List Int) : updL (pkL c t f L odd) 7 x = pkL c t f L x := by
  funext j; match j with
  | 0 => rfl
  | 1 => rfl
  | 2 => rfl
  | 3 => rfl
  | 4 => rfl
  | 5 => rfl
  | 6 => rfl
  | 7 => rfl
  | j + 8 => rfl
theorem pkL_start (c t f : List Int) : updL (updL (updL (fun _ => []) 0 c) 3 t) 4 f = pkL c t f ⟨[], [], [], []⟩ [] := by
  funext j; match j with
  | 0 => rfl
  | 1 => rfl
  | 2 => rfl
  | 3 => rfl
  | 4 => rfl
  | 5 => rfl
  | 6 => rfl
  | 7 => rfl
  | j + 8 => rfl
end Go.Proofs.YtplhghhfdabccaaDoor
