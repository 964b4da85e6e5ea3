import Derived.Test.YthgaeaihfbiolaaDoorLang
import Derived.Test.YthgaeaihfbiolaaDoorMth
import Derived.Test.YthgaeaihfbiolaaDoorLift
namespace Go.Proofs.YthgaeaihfbiolaaDoor

/- THE TREE OF A BRANCH'S NODES; THE ENDS OF A PART'S TEXTS (plain mathematics). -/
def hasF (rs : List (Int × Int)) (c : Nat) : Bool := rs.any fun r => decide (r.1 ≤ c ∧ (c : Int) ≤ r.2)
def ptNone : Pt := .set fun _ => false
def tnode (n : NodeD) (ops : List Pt) : Pt :=
  if n.kind = 1 then .set (hasF n.set)
  else if n.kind = 2 then .seq (ops.getD 0 ptNone) (ops.getD 1 ptNone)
  else if n.kind = 3 then .alt (ops.getD 0 ptNone) (ops.getD 1 ptNone)
  else if n.kind = 4 then .rep (ops.getD 0 ptNone) n.min n.max
  else .grp (ops.getD 0 ptNone) n.group
def tstep (st : List Pt) (n : NodeD) : List Pt := st.take (st.length - arity n.kind) ++ [tnode n (st.drop (st.length - arity n.kind))]
/-- The stack of trees ahead of node i, bottom first; the tree of node i. -/
def tstk (ns : List NodeD) : Nat → List Pt
  | 0 => []
  | i + 1 => tstep (tstk ns i) (ns.getD i .zero)
def tOf (ns : List NodeD) (i : Nat) : Pt := tnode (ns.getD i .zero) ((tstk ns i).drop ((tstk ns i).length - arity (kindAt ns i)))
theorem stk_mapT (ns : List NodeD) : ∀ i, (stk ns i).map (tOf ns) = tstk ns i
  | 0 => rfl
  | i + 1 => by
    have ih := stk_mapT ns i
    have hl : (stk ns i).length = (tstk ns i).length := by rw [← ih, List.length_map]
    rw [stk, tstk, tstep, List.map_append, List.map_take, ih, hl]
    rfl
theorem stk_tlen (ns : List NodeD) (i : Nat) : (tstk ns i).length = (stk ns i).length := by rw [← stk_mapT, List.length_map]
theorem stk_getD_lt (ns : List NodeD) (k j : Nat) (hj : j < (stk ns k).length) : (stk ns k).getD j 0 < k := stk_lt ns k _ (by
  rw [List.getD_eq_getElem?_getD, List.getElem?_eq_getElem hj]
  exact List.getElem_mem _)
theorem tkids_two {ns : List NodeD} {k : Nat} (ha : arity (kindAt ns k) = 2) (hl : 2 ≤ (stk ns k).length) : ∃ x y : Nat, leftOf ns k = x ∧ rightOf ns k = y ∧ x < k ∧ y < k ∧ tOf ns k = tnode (ns.getD k .zero) [tOf ns x, tOf ns y] := by
  refine ⟨(stk ns k).getD ((stk ns k).length - 2) 0, (stk ns k).getD ((stk ns k).length - 1) 0, ?_, ?_, stk_getD_lt _ _ _ (by omega), stk_getD_lt _ _ _ (by omega), ?_⟩
  · rw [leftOf, ha, if_neg (by omega)]
  · rw [rightOf, if_pos ha]
  · have hw := stk_tlen ns k
    unfold tOf
    rw [ha]
    congr 1
    rw [← stk_mapT ns k, List.length_map]
    apply List.ext_getElem?
    intro i
    rw [List.getElem?_drop, List.getElem?_map]
    match i with
    | 0 => simp [List.getD_eq_getElem?_getD, List.getElem?_eq_getElem (show (stk ns k).length - 2 < (stk ns k).length by omega), tOf]
    | 1 => rw [show (stk ns k).length - 2 + 1 = (stk ns k).length - 1 by omega]; simp [List.getD_eq_getElem?_getD, List.getElem?_eq_getElem (show (stk ns k).length - 1 < (stk ns k).length by omega), tOf]
    | i + 2 => rw [List.getElem?_eq_none (by omega)]; simp
theorem tkids_one {ns : List NodeD} {k : Nat} (ha : arity (kindAt ns k) = 1) (hl : 1 ≤ (stk ns k).length) : ∃ x : Nat, leftOf ns k = x ∧ x < k ∧ tOf ns k = tnode (ns.getD k .zero) [tOf ns x] := by
  refine ⟨(stk ns k).getD ((stk ns k).length - 1) 0, ?_, stk_getD_lt _ _ _ (by omega), ?_⟩
  · rw [leftOf, ha, if_neg (by omega)]
  · unfold tOf
    rw [ha]
    congr 1
    rw [← stk_mapT ns k, List.length_map]
    apply List.ext_getElem?
    intro i
    rw [List.getElem?_drop, List.getElem?_map]
    match i with
    | 0 => simp [List.getD_eq_getElem?_getD, List.getElem?_eq_getElem (show (stk ns k).length - 1 < (stk ns k).length by omega), tOf]
    | i + 1 => rw [List.getElem?_eq_none (by omega)]; simp

/-- The offsets at which a text of L ends that begins at one of F's. -/
def EndsAt (u : Word) (L : Word → Prop) (F : Nat → Prop) (j : Nat) : Prop := ∃ i, F i ∧ i ≤ j ∧ j ≤ u.length ∧ L ((u.drop i).take (j - i))
theorem EndsAt.le {u : Word} {L : Word → Prop} {F : Nat → Prop} {j : Nat} (h : EndsAt u L F j) : j ≤ u.length := by obtain ⟨_, _, _, h, _⟩ := h; exact h
theorem ends_congr {u : Word} {L M : Word → Prop} {F G : Nat → Prop} (hl : ∀ w, L w ↔ M w) (hf : ∀ i, F i ↔ G i) (j : Nat) : EndsAt u L F j ↔ EndsAt u M G j :=
  exists_congr fun i => and_congr (hf i) (and_congr_right fun _ => and_congr_right fun _ => hl _)
theorem slice_append (u : Word) {i m j : Nat} (h1 : i ≤ m) (h2 : m ≤ j) : (u.drop i).take (j - i) = (u.drop i).take (m - i) ++ (u.drop m).take (j - m) := by
  have h3 : u.drop m = (u.drop i).drop (m - i) := by rw [List.drop_drop]; congr 1; omega
  rw [h3, show j - i = (m - i) + (j - m) by omega, List.take_add]
theorem ends_seq {u : Word} {L M : Word → Prop} {F : Nat → Prop} (j : Nat) : EndsAt u (fun w => ∃ x y, w = x ++ y ∧ L x ∧ M y) F j ↔ EndsAt u M (EndsAt u L F) j := by
  constructor
  · rintro ⟨i, hi, hij, hj, x, y, e, hx, hy⟩
    have hlen : ((u.drop i).take (j - i)).length = j - i := by simp; omega
    have hl2 : x.length + y.length = j - i := by rw [← hlen, e, List.length_append]
    have e2 := slice_append u (i := i) (m := i + x.length) (j := j) (by omega) (by omega)
    rw [e] at e2
    have hx2 : x = (u.drop i).take (i + x.length - i) := List.append_inj_left e2 (by simp; omega)
    have hy2 : y = (u.drop (i + x.length)).take (j - (i + x.length)) := List.append_inj_right e2 (by simp; omega)
    exact ⟨i + x.length, ⟨i, hi, by omega, by omega, by rw [← hx2]; exact hx⟩, by omega, hj, by rw [← hy2]; exact hy⟩
  · rintro ⟨m, ⟨i, hi, him, hm, hx⟩, hmj, hj, hy⟩
    exact ⟨i, hi, by omega, hj, _, _, slice_append u him hmj, hx, hy⟩
theorem ends_alt {u : Word} {L M : Word → Prop} {F : Nat → Prop} (j : Nat) : EndsAt u (fun w => L w ∨ M w) F j ↔ EndsAt u L F j ∨ EndsAt u M F j := by
  constructor
  · rintro ⟨i, h1, h2, h3, h | h⟩
    · exact .inl ⟨i, h1, h2, h3, h⟩
    · exact .inr ⟨i, h1, h2, h3, h⟩
  · rintro (⟨i, h1, h2, h3, h⟩ | ⟨i, h1, h2, h3, h⟩)
    · exact ⟨i, h1, h2, h3, .inl h⟩
    · exact ⟨i, h1, h2, h3, .inr h⟩
theorem ends_set {u : Word} {f : Nat → Bool} {F : Nat → Prop} (j : Nat) : EndsAt u (In (.set f)) F j ↔ ∃ i, ∃ h : i < u.length, j = i + 1 ∧ F i ∧ f (u[i]'h).toNat = true := by
  constructor
  · rintro ⟨i, h1, h2, h3, c, e, hc⟩
    have hlen : ((u.drop i).take (j - i)).length = j - i := by simp; omega
    rw [e] at hlen
    simp only [List.length_cons, List.length_nil] at hlen
    have hi : i < u.length := by omega
    refine ⟨i, hi, by omega, h1, ?_⟩
    have : (u.drop i).take (j - i) = [u[i]] := by rw [List.drop_eq_getElem_cons hi, show j - i = 1 by omega]; rfl
    rw [this] at e
    cases e
    exact hc
  · rintro ⟨i, hi, rfl, h1, h⟩
    refine ⟨i, h1, by omega, by omega, u[i], ?_, h⟩
    rw [List.drop_eq_getElem_cons hi, show i + 1 - i = 1 by omega]
    rfl
theorem ends_pow_zero {u : Word} {L : Word → Prop} {F : Nat → Prop} (hF : ∀ i, F i → i ≤ u.length) (j : Nat) : EndsAt u (Pow L 0) F j ↔ F j := by
  constructor
  · rintro ⟨i, h1, h2, h3, h⟩
    have hlen : ((u.drop i).take (j - i)).length = j - i := by simp; omega
    have h' : (u.drop i).take (j - i) = [] := h
    rw [h'] at hlen
    simp only [List.length_nil] at hlen
    obtain rfl : i = j := by omega
    exact h1
  · intro h
    exact ⟨j, h, Nat.le_refl _, hF j h, by rw [Nat.sub_self]; rfl⟩
theorem ends_pow_succ {u : Word} {L : Word → Prop} {F : Nat → Prop} (k j : Nat) : EndsAt u (Pow L (k + 1)) F j ↔ EndsAt u L (EndsAt u (Pow L k) F) j := by
  rw [← ends_seq j]
  exact ends_congr (fun w => ⟨fun h => h.unsnoc, fun ⟨x, y, e, hx, hy⟩ => by rw [e]; exact hx.snoc hy⟩) (fun _ => Iff.rfl) j
theorem ends_some {u : Word} {P : Nat → Prop} {M : Nat → Word → Prop} {F : Nat → Prop} (j : Nat) : EndsAt u (fun w => ∃ k, P k ∧ M k w) F j ↔ ∃ k, P k ∧ EndsAt u (M k) F j := by
  constructor
  · rintro ⟨i, h1, h2, h3, k, hk, h⟩; exact ⟨k, hk, i, h1, h2, h3, h⟩
  · rintro ⟨k, hk, i, h1, h2, h3, h⟩; exact ⟨i, h1, h2, h3, k, hk, h⟩
/-- Once a round adds nothing, none does. -/
theorem ends_stop {u : Word} {L : Word → Prop} {F : Nat → Prop} {mn K : Nat} (hK : mn ≤ K) (h : ∀ j, EndsAt u (Pow L (K + 1)) F j → ∃ i, mn ≤ i ∧ i ≤ K ∧ EndsAt u (Pow L i) F j) :
    ∀ m, mn ≤ m → ∀ j, EndsAt u (Pow L m) F j → ∃ i, mn ≤ i ∧ i ≤ K ∧ EndsAt u (Pow L i) F j := by
  intro m
  induction m with
  | zero => intro hm j hj; exact ⟨0, hm, by omega, hj⟩
  | succ m ih =>
    intro hm j hj
    by_cases hmK : m + 1 ≤ K
    · exact ⟨m + 1, hm, hmK, hj⟩
    by_cases hmm : mn ≤ m
    · obtain ⟨i, hi, hij, hjl, hL⟩ := (ends_pow_succ m j).1 hj
      obtain ⟨i0, a, b, c⟩ := ih hmm i hi
      have : EndsAt u (Pow L (i0 + 1)) F j := (ends_pow_succ i0 j).2 ⟨i, c, hij, hjl, hL⟩
      by_cases e : i0 + 1 ≤ K
      · exact ⟨i0 + 1, by omega, e, this⟩
      · obtain rfl : i0 = K := by omega
        exact h j this
    · obtain rfl : m + 1 = mn := by omega
      exact absurd hK hmK

/-- What a repeat's texts come to. -/
def repP (mn : Nat) (mx : Int) (k : Nat) : Prop := mn ≤ k ∧ (mx = -1 ∨ (k : Int) ≤ mx)
theorem ends_rep {u : Word} {b : Pt} {mn : Nat} {mx : Int} {F : Nat → Prop} (j : Nat) : EndsAt u (In (.rep b mn mx)) F j ↔ ∃ k, repP mn mx k ∧ EndsAt u (Pow (In b) k) F j := by
  rw [← ends_some j]
  exact ends_congr (fun w => ⟨fun ⟨k, a, c, d⟩ => ⟨k, ⟨by omega, c⟩, d⟩, fun ⟨k, a, d⟩ => ⟨k, by have := a.1; omega, a.2, d⟩⟩) (fun _ => Iff.rfl) j

/-- A list of marks holds a set of offsets of a text of n bytes. -/
structure IsSet (n : Nat) (S : List Bool) (P : Nat → Prop) : Prop where
  len : S.length = n + 1
  iff : ∀ j, S.getD j false = true ↔ P j
theorem IsSet.le {n : Nat} {S : List Bool} {P : Nat → Prop} (h : IsSet n S P) : ∀ j, P j → j ≤ n := fun j hj => by
  have := (h.iff j).2 hj
  by_cases e : j < S.length
  · have := h.len; omega
  · rw [List.getD_eq_getElem?_getD, List.getElem?_eq_none (by omega)] at this
    cases this
theorem IsSet.congr {n : Nat} {S : List Bool} {P Q : Nat → Prop} (h : IsSet n S P) (hq : ∀ j, P j ↔ Q j) : IsSet n S Q := ⟨h.len, fun j => (h.iff j).trans (hq j)⟩
end Go.Proofs.YthgaeaihfbiolaaDoor
namespace Go.Proofs.YthgaeaihfbiolaaDoor
open Go.RowKit

/- A PART AS A TREE: the values that the code makes of a pattern's nodes. -/
def TreeAt (w : World) : Value → Pt → Prop
  | v, .set f => ∃ mg : Nat, v = .iface 85 (.agg #[.pointer (some ⟨mg, 0, none⟩)]) ∧ w.heap[mg]? = some (.cells (marksArr f) 140 (0, 0))
  | v, .seq l r => ∃ lv rv, v = .iface 88 (.agg #[lv, rv]) ∧ TreeAt w lv l ∧ TreeAt w rv r
  | v, .alt l r => ∃ lv rv, v = .iface 89 (.agg #[lv, rv]) ∧ TreeAt w lv l ∧ TreeAt w rv r
  | v, .rep b mn mx => ∃ lv, v = .iface 91 (.agg #[lv, .int .i64 mn, .int .i64 mx]) ∧ TreeAt w lv b ∧ boundsB mn mx = true
  | v, .grp b g => ∃ lv, v = .iface 94 (.agg #[lv, .int .i64 g]) ∧ TreeAt w lv b

/-- The marks that were there are as they were. -/
def KeepM (w w' : World) : Prop := ∀ (mg : Nat) (f : Nat → Bool), w.heap[mg]? = some (.cells (marksArr f) 140 (0, 0)) → w'.heap[mg]? = some (.cells (marksArr f) 140 (0, 0))
theorem KeepM.trans {a b c : World} (h : KeepM a b) (k : KeepM b c) : KeepM a c := fun mg f e => k mg f (h mg f e)
theorem KeepM.of {w w' : World} (h : Below w.heap.size w w') : KeepM w w' := fun mg _ e => (h.block mg (Array.getElem?_eq_some_iff.1 e).1).trans e
theorem KeepM.grown {w w' : World} {g : Nat} {cs : Array Value} {t : TypeId} {fr : Nat × Nat} (h : w.grownBy w' (some g)) (hg : w.heap[g]? = some (.cells cs t fr)) (ht : t ≠ 140) : KeepM w w' := fun mg f e => by
  refine (h.block mg (Array.getElem?_eq_some_iff.1 e).1 (fun q => ?_)).trans e
  cases q
  rw [hg] at e
  cases e
  exact ht rfl
theorem TreeAt.keep {w w' : World} (hk : KeepM w w') : ∀ (p : Pt) (v : Value), TreeAt w v p → TreeAt w' v p
  | .set f, _, ⟨mg, h1, h2⟩ => ⟨mg, h1, hk mg f h2⟩
  | .seq l r, _, ⟨lv, rv, h1, h2, h3⟩ => ⟨lv, rv, h1, TreeAt.keep hk l lv h2, TreeAt.keep hk r rv h3⟩
  | .alt l r, _, ⟨lv, rv, h1, h2, h3⟩ => ⟨lv, rv, h1, TreeAt.keep hk l lv h2, TreeAt.keep hk r rv h3⟩
  | .rep b _ _, _, ⟨lv, h1, h2, h3⟩ => ⟨lv, h1, TreeAt.keep hk b lv h2, h3⟩
  | .grp b _, _, ⟨lv, h1, h2⟩ => ⟨lv, h1, TreeAt.keep hk b lv h2⟩

/-- A tree's weight. -/
def wPt : Pt → Int
  | .set _ => 1
  | .seq l r => capW (wPt l + wPt r)
  | .alt l r => capW (wPt l + wPt r)
  | .rep b mn mx => capW (wPt b * copies mn mx)
  | .grp b _ => wPt b
theorem tree_weight {w : World} : ∀ (p : Pt) (v : Value) (N : Nat) (wt : Int), TreeAt w v p → IsPart N v wt → wt = wPt p
  | p, _, 0, _, _, hp => hp.elim
  | .set f, v, N + 1, wt, ⟨mg, h1, _⟩, hp => by
    subst h1
    rcases hp with ⟨x, e, rfl⟩ | ⟨l, r, a, b, e, _⟩ | ⟨l, r, a, b, e, _⟩ | ⟨l, a, mn, mx, e, _⟩ | ⟨l, g, e, _⟩
    · rfl
    all_goals cases e
  | .seq p q, v, N + 1, wt, ⟨lv, rv, h1, hl, hr⟩, hp => by
    subst h1
    rcases hp with ⟨x, e, rfl⟩ | ⟨l, r, a, b, e, k1, k2, rfl⟩ | ⟨l, r, a, b, e, _⟩ | ⟨l, a, mn, mx, e, _⟩ | ⟨l, g, e, _⟩
    · cases e
    · cases e
      rw [tree_weight p _ N a hl k1, tree_weight q _ N b hr k2]
      rfl
    all_goals cases e
  | .alt p q, v, N + 1, wt, ⟨lv, rv, h1, hl, hr⟩, hp => by
    subst h1
    rcases hp with ⟨x, e, rfl⟩ | ⟨l, r, a, b, e, k1, k2, rfl⟩ | ⟨l, r, a, b, e, k1, k2, rfl⟩ | ⟨l, a, mn, mx, e, _⟩ | ⟨l, g, e, _⟩
    · cases e
    · cases e
    · cases e
      rw [tree_weight p _ N a hl k1, tree_weight q _ N b hr k2]
      rfl
    all_goals cases e
  | .rep p m n, v, N + 1, wt, ⟨lv, h1, hl, hb⟩, hp => by
    subst h1
    rcases hp with ⟨x, e, rfl⟩ | ⟨l, r, a, b, e, k1, k2, rfl⟩ | ⟨l, r, a, b, e, k1, k2, rfl⟩ | ⟨l, a, mn, mx, e, k1, _, rfl⟩ | ⟨l, g, e, _⟩
    · cases e
    · cases e
    · cases e
    · cases e
      rw [tree_weight p _ N a hl k1]
      rfl
    · cases e
  | .grp p g, v, N + 1, wt, ⟨lv, h1, hl⟩, hp => by
    subst h1
    rcases hp with ⟨x, e, rfl⟩ | ⟨l, r, a, b, e, k1, k2, rfl⟩ | ⟨l, r, a, b, e, k1, k2, rfl⟩ | ⟨l, a, mn, mx, e, _⟩ | ⟨l, g', e, k1⟩
    · cases e
    · cases e
    · cases e
    · cases e
    · cases e
      exact tree_weight p _ N wt hl k1

/- REPEATS OF REPEATS -/
theorem Pow.nil {L : Word → Prop} (h : L []) : ∀ k, Pow L k []
  | 0 => rfl
  | k + 1 => ⟨[], [], rfl, h, Pow.nil h k⟩
theorem Pow.many {L M : Word → Prop} (h : ∀ u, M u → ∃ j, Pow L j u) : ∀ (k : Nat) (u : Word), Pow M k u → ∃ j, Pow L j u
  | 0, _, hu => ⟨0, hu⟩
  | k + 1, _, ⟨a, b, e, ha, hb⟩ => by
    obtain ⟨i, hi⟩ := h a ha
    obtain ⟨j, hj⟩ := Pow.many h k b hb
    exact ⟨i + j, by rw [e]; exact hi.add i j hj⟩
theorem pow_one {L : Word → Prop} {u : Word} (h : L u) : Pow L 1 u := ⟨u, [], by simp, h, rfl⟩
theorem one_pow {L : Word → Prop} {u : Word} (h : Pow L 1 u) : L u := by
  obtain ⟨x, y, rfl, hx, hy⟩ := h
  cases hy
  simpa using hx
/-- A loose repeat: a star or a question mark. -/
theorem in_loose {b : Pt} {mx : Int} (h : loose 0 mx = true) (u : Word) : In (.rep b 0 mx) u ↔ ∃ k : Nat, (mx = -1 ∨ k ≤ 1) ∧ Pow (In b) k u := by
  have hm : mx = 1 ∨ mx = -1 := by simpa [loose] using h
  constructor
  · rintro ⟨k, _, h2, h3⟩; exact ⟨k, by omega, h3⟩
  · rintro ⟨k, h2, h3⟩; exact ⟨k, by omega, by omega, h3⟩
theorem in_rep_loose {b : Pt} {imn imx mn mx : Int} (h1 : loose imn imx = true) (h2 : loose mn mx = true) (u : Word) : In (.rep b 0 (if imx ≤ mx then imx else mx)) u ↔ In (.rep (.rep b imn imx) mn mx) u := by
  have e1 : imn = 0 := by simp [loose] at h1; exact h1.1
  have e2 : mn = 0 := by simp [loose] at h2; exact h2.1
  subst e1 e2
  have hm1 : imx = 1 ∨ imx = -1 := by simpa [loose] using h1
  have hm2 : mx = 1 ∨ mx = -1 := by simpa [loose] using h2
  rw [in_loose (loose_min h1 h2), in_loose h2]
  have hi : ∀ u, In (.rep b 0 imx) u ↔ _ := in_loose h1
  constructor
  · rintro ⟨k, hk, hp⟩
    by_cases hx : imx = -1
    · exact ⟨1, .inr (Nat.le_refl _), pow_one ((hi u).2 ⟨k, .inl hx, hp⟩)⟩
    · have hx1 : imx = 1 := by omega
      by_cases hx2 : mx = -1
      · refine ⟨k, .inl hx2, ?_⟩
        clear hk
        induction k generalizing u with
        | zero => exact hp
        | succ k ih =>
          obtain ⟨x, y, e, hx', hy⟩ := hp
          exact ⟨x, y, e, (hi x).2 ⟨1, .inr (Nat.le_refl _), pow_one hx'⟩, ih y hy⟩
      · have hk1 : k ≤ 1 := by
          rcases hk with hk | hk
          · rw [hx1] at hk; split at hk <;> omega
          · exact hk
        exact ⟨1, .inr (Nat.le_refl _), pow_one ((hi u).2 ⟨k, .inr hk1, hp⟩)⟩
  · rintro ⟨k, hk, hp⟩
    by_cases hs : imx = -1 ∨ mx = -1
    · obtain ⟨j, hj⟩ := Pow.many (L := In b) (fun u hu => by obtain ⟨j, _, hj⟩ := (hi u).1 hu; exact ⟨j, hj⟩) k u hp
      exact ⟨j, .inl (by split <;> omega), hj⟩
    · have hk1 : k ≤ 1 := by omega
      match k, hk1, hp with
      | 0, _, hp => exact ⟨0, .inr (by omega), hp⟩
      | 1, _, hp =>
        obtain ⟨j, hj1, hj⟩ := (hi u).1 (one_pow hp)
        exact ⟨j, .inr (by omega), hj⟩
theorem in_rep_congr {p q : Pt} (h : ∀ u, In p u ↔ In q u) (mn mx : Int) (u : Word) : In (.rep p mn mx) u ↔ In (.rep q mn mx) u :=
  exists_congr fun k => and_congr_right fun _ => and_congr_right fun _ => Pow.congr h k u
end Go.Proofs.YthgaeaihfbiolaaDoor
