import Derived.Test.YtgbdlgogccgciaaMiD
import Derived.Test.YtgbdlgogccgciaaMiEMiF
namespace Go.Proofs.Ytgbdlgogccgciaa
open Go.RowKit

/- A ROW OF TRAITS. -/
def trRow (n : Nat) (tr : Nat → Tr) : Array Value := ((List.range n).flatMap fun s => (trC (tr s)).toList).toArray
theorem flat_get {α : Type} (f : Nat → List α) (k : Nat) (hf : ∀ s, (f s).length = k) : ∀ (n s i : Nat), s < n → i < k → ((List.range n).flatMap f)[s * k + i]? = (f s)[i]?
  | 0, s, _, h, _ => absurd h (Nat.not_lt_zero _)
  | n + 1, s, i, h, hi => by
    have hl : ((List.range n).flatMap f).length = n * k := by
      clear h
      induction n with
      | zero => simp
      | succ n ih => rw [List.range_succ, List.flatMap_append, List.length_append, ih]; simp [hf, Nat.succ_mul]
    rw [List.range_succ, List.flatMap_append]
    by_cases e : s = n
    · subst e
      rw [List.getElem?_append_right (by omega), hl, show s * k + i - s * k = i by omega]
      simp
    · have h2 : s * k + i < n * k := by
        have := Nat.mul_le_mul_right k (show s + 1 ≤ n by omega)
        rw [Nat.succ_mul] at this
        omega
      rw [List.getElem?_append_left (by omega)]
      exact flat_get f k hf n s i (by omega) hi
theorem trRow_get (n : Nat) (tr : Nat → Tr) {s i : Nat} (hs : s < n) (hi : i < 5) : (trRow n tr)[s * 5 + i]? = (trC (tr s))[i]? := by
  unfold trRow
  rw [List.getElem?_toArray, flat_get _ 5 (fun _ => rfl) n s i hs hi, Array.getElem?_toList]
theorem tr_cells {W : World} {g n : Nat} {tr : Nat → Tr} (h : W.heap[g]? = some (.cells (trRow n tr) 68 (0, 0))) {s : Nat} (hs : s < n) : W.cell? ⟨g, s * 5, none⟩ = some (.int .u64 ((tr s).1 : Int)) ∧ W.cell? ⟨g, s * 5 + 1, none⟩ = some (.int .u64 ((tr s).2.1 : Int)) ∧ W.cell? ⟨g, s * 5 + 2, none⟩ = some (.int .u64 ((tr s).2.2.1 : Int)) ∧ W.cell? ⟨g, s * 5 + 3, none⟩ = some (.int .u64 ((tr s).2.2.2.1 : Int)) ∧ W.cell? ⟨g, s * 5 + 4, none⟩ = some (.int .u64 ((tr s).2.2.2.2 : Int)) := by
  have key : ∀ i, i < 5 → W.cell? ⟨g, s * 5 + i, none⟩ = (trC (tr s))[i]? := fun i hi => by rw [cell_of_row _ _ _ _ _ _ h, trRow_get n tr hs hi]
  exact ⟨key 0 (by omega), key 1 (by omega), key 2 (by omega), key 3 (by omega), key 4 (by omega)⟩
/- NIL ROWS. -/
theorem Fam.newNil {gt n : Nat} {W : World} {v : Nat → Value} {l : Nat → List Int} (h : Fam gt n W v l) : Fam gt (n + 1) W (upd v n (.slice none 0 0)) (updL l n []) := by
  refine ⟨fun i hi => ?_, fun i j hi hj hne b hb => ?_⟩
  · by_cases e : i = n
    · subst e
      rw [upd_same, updL_same]
      exact ⟨rfl, .inl ⟨rfl, rfl⟩⟩
    · rw [upd_ne _ _ e, updL_ne _ _ e]
      exact h.own i (by omega)
  · by_cases e : i = n
    · subst e
      rw [upd_same] at hb
      simp [Value.ownBlock] at hb
    · rw [upd_ne _ _ e] at hb
      by_cases e2 : j = n
      · subst e2
        rw [upd_same]
        simp [Value.ownBlock]
      · rw [upd_ne _ _ e2]
        exact h.apart i j (by omega) (by omega) hne b hb
section
variable {gt : Nat} {W W' : World} {p : Nat} {mv : Value} {m : Nat} {mi : Nat → Nat} {v : Nat → Value} {l : Nat → List Int} {N : Nat} {o wk : List Nat} {mem : Nat → List Nat}
theorem PtS.newNil (h : PtS gt W p mv m mi v l N o wk mem) : PtS gt W p mv m mi (upd v N (.slice none 0 0)) (updL l N []) (N + 1) o wk mem := by
  have h2 := h.two
  refine ⟨h.fam.newNil, by omega, by rw [upd_ne _ _ (by omega), upd_ne _ _ (by omega)]; exact h.box, h.pge, ?_, fun x hx => ⟨(h.idx x hx).1, by have := (h.idx x hx).2; omega⟩, by rw [updL_ne _ _ (by omega)]; exact h.l0, by rw [updL_ne _ _ (by omega)]; exact h.l1, fun x hx => by rw [updL_ne _ _ (by have := (h.idx x hx).2; omega)]; exact h.lm x hx⟩
  rw [mvL_congr (v' := v) (mi' := mi) (fun x hx => upd_ne _ _ (by have := (h.idx x hx).2; omega))]
  exact h.out
/-- A block that is none of the partition's has turned. -/
theorem PtS.far (h : PtS gt W p mv m mi v l N o wk mem) {g : Nat} (hg : W.grownBy W' (some g)) (hF : ∀ cs, W.heap[g]? ≠ some (.cells cs 3 (0, 0))) (hB : ∀ cs, W.heap[g]? ≠ some (.cells cs 62 (0, 0))) (hO : mv.ownBlock ≠ some g) : PtS gt W' p mv m mi v l N o wk mem := by
  refine ⟨h.fam.keepO fun i hi b hb => ?_, h.two, (hg.block p (row_lt h.box) (fun e => ?_)).trans h.box, h.pge, ⟨h.out.1, ?_⟩, h.idx, h.l0, h.l1, h.lm⟩
  · obtain ⟨cs, hc⟩ := owns_int (h.fam.own i hi) hb
    exact hg.block b (row_lt hc) (fun e => by cases e; exact hF _ hc)
  · have e2 : p = g := Option.some.inj e
    exact hB _ (e2 ▸ h.box)
  · rcases h.out.2 with k | ⟨g', cap, cur, hv, h1, hh, r⟩
    · exact .inl k
    · refine .inr ⟨g', cap, cur, hv, h1, (hg.block g' (row_lt hh) (fun e => ?_)).trans hh, r⟩
      apply hO
      rw [hv, ← e]
      rfl
end
/- GROUPS: rows N, N + 1 .. of the family. -/
def gvL (v : Nat → Value) (N q : Nat) : List Value := (List.range q).map fun j => v (N + j)
theorem gvL_len (v : Nat → Value) (N q : Nat) : (gvL v N q).length = q := by simp [gvL]
theorem gvL_get (v : Nat → Value) (N : Nat) {q j : Nat} (h : j < q) : (gvL v N q)[j]? = some (v (N + j)) := by simp [gvL, h]
theorem gvL_succ (v : Nat → Value) (N q : Nat) : gvL v N (q + 1) = gvL v N q ++ [v (N + q)] := by simp [gvL, List.range_succ]
theorem gvL_congr {v v' : Nat → Value} {N q : Nat} (h : ∀ j, j < q → v (N + j) = v' (N + j)) : gvL v N q = gvL v' N q := List.map_congr_left fun j hj => h j (by simpa using hj)
theorem gvL_set (v : Nat → Value) (N q j : Nat) (u : Value) : (gvL v N q).set j u = gvL (upd v (N + j) u) N q := by
  apply List.ext_getElem?
  intro i
  rw [List.getElem?_set]
  by_cases hi : i < q
  · rw [gvL_get v N hi, gvL_get _ N hi, gvL_len]
    by_cases e : j = i
    · subst e
      rw [if_pos rfl, if_pos hi, upd_same]
    · rw [if_neg e, upd_ne _ _ (by omega)]
  · have h1 : ∀ f : Nat → Value, (gvL f N q)[i]? = none := fun f => List.getElem?_eq_none (by rw [gvL_len]; omega)
    rw [h1, h1, gvL_len]
    by_cases e : j = i
    · rw [if_pos e, if_neg (by omega)]
    · rw [if_neg e]
/-- The kind of a state: its trait, its block's number ahead. -/
def kindF (o : List Nat) (tr : Nat → Tr) (s : Nat) : Tr := (o.getD s 0, (tr s).2)
/-- The kinds met. -/
def kindsF (o : List Nat) (tr : Nat → Tr) (xs : List Nat) : List Tr := xs.foldl (fun ks s => addR ks (kindF o tr s)) []
theorem kindsF_snoc (o : List Nat) (tr : Nat → Tr) (xs : List Nat) (s : Nat) : kindsF o tr (xs ++ [s]) = addR (kindsF o tr xs) (kindF o tr s) := by simp [kindsF]
/-- The group of a kind. -/
def grpF (o : List Nat) (tr : Nat → Tr) (xs : List Nat) (k : Tr) : List Nat := xs.filter fun s => decide (kindF o tr s = k)
theorem grpF_snoc (o : List Nat) (tr : Nat → Tr) (xs : List Nat) (s : Nat) (k : Tr) : grpF o tr (xs ++ [s]) k = if kindF o tr s = k then grpF o tr xs k ++ [s] else grpF o tr xs k := by
  unfold grpF
  rw [List.filter_append]
  by_cases h : kindF o tr s = k
  · rw [if_pos h]; simp [h]
  · rw [if_neg h]; simp [h]
theorem grpF_mem {o : List Nat} {tr : Nat → Tr} {xs : List Nat} {k : Tr} {s : Nat} : s ∈ grpF o tr xs k ↔ s ∈ xs ∧ kindF o tr s = k := by simp [grpF]
theorem addR_mem {κ : Type} [DecidableEq κ] {ks : List κ} {k x : κ} : x ∈ addR ks k ↔ x ∈ ks ∨ x = k := by
  unfold addR
  split
  · rename_i h
    exact ⟨.inl, fun e => e.elim id (fun e => e ▸ h)⟩
  · simp
theorem kindsF_mem {o : List Nat} {tr : Nat → Tr} {k : Tr} : ∀ {xs : List Nat}, k ∈ kindsF o tr xs ↔ ∃ s ∈ xs, kindF o tr s = k := by
  have key : ∀ (xs : List Nat) (ks : List Tr), k ∈ xs.foldl (fun ks s => addR ks (kindF o tr s)) ks ↔ k ∈ ks ∨ ∃ s ∈ xs, kindF o tr s = k := by
    intro xs
    induction xs with
    | nil => intro ks; simp
    | cons x xs ih =>
      intro ks
      rw [List.foldl_cons, ih, addR_mem]
      constructor
      · rintro ((h | h) | ⟨s, h1, h2⟩)
        · exact .inl h
        · exact .inr ⟨x, by simp, h.symm⟩
        · exact .inr ⟨s, by simp [h1], h2⟩
      · rintro (h | ⟨s, h1, h2⟩)
        · exact .inl (.inl h)
        · rcases List.mem_cons.1 h1 with e | e
          · subst e; exact .inl (.inr h2.symm)
          · exact .inr ⟨s, e, h2⟩
  intro xs
  unfold kindsF
  rw [key]
  simp
theorem addR_nodup {κ : Type} [DecidableEq κ] {ks : List κ} {k : κ} (h : ks.Nodup) : (addR ks k).Nodup := by
  unfold addR
  split
  · exact h
  · rename_i hk
    rw [List.nodup_append]
    exact ⟨h, by simp, fun a ha b hb e => by simp at hb; subst hb; exact hk (e ▸ ha)⟩
theorem kindsF_nodup (o : List Nat) (tr : Nat → Tr) (xs : List Nat) : (kindsF o tr xs).Nodup := by
  have key : ∀ (xs : List Nat) (ks : List Tr), ks.Nodup → (xs.foldl (fun ks s => addR ks (kindF o tr s)) ks).Nodup := by
    intro xs
    induction xs with
    | nil => intro ks h; exact h
    | cons x xs ih => intro ks h; exact ih _ (addR_nodup h)
  exact key xs [] List.nodup_nil
end Go.Proofs.Ytgbdlgogccgciaa
namespace Go.Proofs.Ytgbdlgogccgciaa
open Go.RowKit

theorem cells_map {cs : Array Value} {e : TypeId} {f : Nat × Nat} {es : Array MapEntry} {c : Nat} (h : some (Obj.cells cs e f) = some (Obj.map es c)) : False := by injection h with h; cases h
/-- Blocks that are newer than w may turn. -/
theorem PrK.fresh {gt g : Nat} {w W W' : World} (h : PrK gt g w W) (hs : gt + 1 ≤ w.heap.size) {q : Nat} (hg : W.grownBy W' (some q)) (hq : w.heap.size ≤ q) : PrK gt g w W' :=
  ⟨h.below.grown hg (Nat.le_trans hs h.below.size) (fun _ hb => by cases hb; omega), fun b cs e h1 h2 h3 hb => by
    have hl := row_lt hb
    have hb' := h.kp b cs e h1 h2 h3 hb
    exact (hg.block b (row_lt hb') (fun e2 => by cases e2; omega)).trans hb'⟩
/-- Where cut stands: K the kinds met, G their groups. -/
structure CuG (gt : Nat) (w : World) (p m gmv cm : Nat) (mi : Nat → Nat) (v0 : Nat → Value) (l0 : Nat → List Int) (N : Nat) (o wk : List Nat) (mem : Nat → List Nat) (rM : Nat) (K : List Tr) (G : Nat → List Nat) (g c : Nat) (v : Nat → Value) (l : Nat → List Int) (W : World) : Prop where
  pt : PtS gt W p (.slice (some ⟨gmv, 0, none⟩) m cm) m mi v l (N + K.length) o wk mem
  map : W.heap[rM]? = some (.map (regE trV K) K.length)
  out : W.ownsRow (gt + 1) 22 1 (.slice (some ⟨g, 0, none⟩) K.length c) K.length (gvL v N K.length)
  new : w.heap.size ≤ g
  newM : w.heap.size ≤ rM
  gl : gmv < w.heap.size
  ws : gt + 1 ≤ w.heap.size
  two : 2 ≤ N
  low : ∀ x, x < m → mi x < N
  old : ∀ i, i < N → v i = v0 i ∧ l i = l0 i
  grp : ∀ j, j < K.length → l (N + j) = intsN (G j)
  kept : PrK gt gmv w W
section
variable {gt : Nat} {w : World} {p m gmv cm : Nat} {mi : Nat → Nat} {v0 : Nat → Value} {l0 : Nat → List Int} {N : Nat} {o wk : List Nat} {mem : Nat → List Nat} {rM : Nat} {K : List Tr} {G : Nat → List Nat} {g c : Nat} {v : Nat → Value} {l : Nat → List Int} {W W' : World}
theorem CuG.on (h : CuG gt w p m gmv cm mi v0 l0 N o wk mem rM K G g c v l W) (hb : Below W.heap.size W W') : CuG gt w p m gmv cm mi v0 l0 N o wk mem rM K G g c v l W' :=
  ⟨h.pt.on hb, row_below h.map hb, ownsRow_below h.out hb, h.new, h.newM, h.gl, h.ws, h.two, h.low, h.old, h.grp, h.kept.on h.pt.size hb⟩
/-- The map has turned. -/
theorem CuG.far (h : CuG gt w p m gmv cm mi v0 l0 N o wk mem rM K G g c v l W) (hg : W.grownBy W' (some rM)) : PtS gt W' p (.slice (some ⟨gmv, 0, none⟩) m cm) m mi v l (N + K.length) o wk mem ∧ W'.ownsRow (gt + 1) 22 1 (.slice (some ⟨g, 0, none⟩) K.length c) K.length (gvL v N K.length) ∧ PrK gt gmv w W' := by
  have hm := h.map
  refine ⟨h.pt.far hg (fun cs e => cells_map (e.symm.trans hm)) (fun cs e => cells_map (e.symm.trans hm)) ?_, ?_, h.kept.fresh h.ws hg h.newM⟩
  · have := h.gl
    have := h.newM
    simp [Value.ownBlock]
    omega
  · exact own_keepM h.out fun b cs hb => (hg.block b (row_lt hb) (fun e => by cases e; exact cells_map (hb.symm.trans hm))).trans hb
theorem CuG.num (h : CuG gt w p m gmv cm mi v0 l0 N o wk mem rM K G g c v l W) (hg : W.grownBy W' (some rM)) (hm : W'.heap[rM]? = some (.map (regE trV K) K.length)) : CuG gt w p m gmv cm mi v0 l0 N o wk mem rM K G g c v l W' := by
  obtain ⟨a, b, d⟩ := h.far hg
  exact ⟨a, hm, b, h.new, h.newM, h.gl, h.ws, h.two, h.low, h.old, h.grp, d⟩
/-- One kind more, its group nil as yet. -/
theorem CuG.more (h : CuG gt w p m gmv cm mi v0 l0 N o wk mem rM K G g c v l W) {W5 : World} {kd : Tr} {g' c' : Nat} (hg : W.grownBy W' (some rM)) (hm : W'.heap[rM]? = some (.map (regE trV (K ++ [kd])) (K ++ [kd]).length)) (ho : W5.ownsRow (gt + 1) 22 1 (.slice (some ⟨g', 0, none⟩) (K.length + 1) c') (K.length + 1) (gvL v N K.length ++ [.slice none 0 0])) (hg5 : W'.grownBy W5 (some g)) (hat : g' = g ∨ w.heap.size ≤ g') :
    CuG gt w p m gmv cm mi v0 l0 N o wk mem rM (K ++ [kd]) (fun j => if j = K.length then [] else G j) g' c' (upd v (N + K.length) (.slice none 0 0)) (updL l (N + K.length) []) W5 := by
  obtain ⟨a, b, d⟩ := h.far hg
  obtain ⟨cur, hc⟩ := own_slices b
  have hgl := h.gl
  have hnew := h.new
  have hP5 : PtS gt W5 p (.slice (some ⟨gmv, 0, none⟩) m cm) m mi v l (N + K.length) o wk mem := a.far hg5 (fun cs e => absurd (cells_typeM (hc.symm.trans e)) (by decide)) (fun cs e => absurd (cells_typeM (hc.symm.trans e)) (by decide)) (by simp [Value.ownBlock]; omega)
  have hl : (K ++ [kd]).length = K.length + 1 := by simp
  refine ⟨?_, ?_, ?_, by rcases hat with k | k <;> omega, h.newM, hgl, h.ws, h.two, h.low, fun i hi => ?_, fun j hj => ?_, d.fresh h.ws hg5 hnew⟩
  · rw [hl]; exact hP5.newNil
  · refine (hg5.block rM (row_lt hm) (fun e => ?_)).trans hm
    cases e
    exact cells_map (hc.symm.trans hm)
  · rw [hl, gvL_succ, upd_same, gvL_congr (v' := v) (fun j hj => upd_ne _ _ (by omega))]
    exact ho
  · rw [upd_ne _ _ (by omega), updL_ne _ _ (by omega)]
    exact h.old i hi
  · rw [hl] at hj
    by_cases e : j = K.length
    · subst e
      rw [updL_same]
      simp [intsN]
    · rw [updL_ne _ _ (by omega)]
      simp only [if_neg e]
      exact h.grp j (by omega)
/-- One state more in group j. -/
theorem CuG.app (h : CuG gt w p m gmv cm mi v0 l0 N o wk mem rM K G g c v l W) {j s : Nat} (hj : j < K.length) {u : Value} (hF : Fam gt (N + K.length) W' (upd v (N + j) u) (updL l (N + j) (intsN (G j) ++ [(s : Int)]))) (hg : W.grownBy W' (v (N + j)).ownBlock) :
    W'.cell? ⟨g, j, none⟩ = some (v (N + j)) ∧ W'.frozen? ⟨g, j, none⟩ = false ∧ CuG gt w p m gmv cm mi v0 l0 N o wk mem rM K (fun i => if i = j then G j ++ [s] else G i) g c (upd v (N + j) u) (updL l (N + j) (intsN (G j) ++ [(s : Int)])) (W'.setCell ⟨g, j, none⟩ u) := by
  have h2 := h.two
  have hgl := h.gl
  have hnew := h.new
  have hP1 := h.pt.row (i := N + j) (by omega) (by omega) (fun x hx => by have := h.low x hx; omega) hF hg
  have ho := own_others h.pt.fam (i := N + j) (by omega) hg h.out
  obtain ⟨cur, hc⟩ := own_slices ho
  have hcell := ho.cellAt j (by omega)
  rw [gvL_get v N hj] at hcell
  have hgs := grown_putM W' g j u
  have hP2 : PtS gt (W'.setCell ⟨g, j, none⟩ u) p (.slice (some ⟨gmv, 0, none⟩) m cm) m mi (upd v (N + j) u) (updL l (N + j) (intsN (G j) ++ [(s : Int)])) (N + K.length) o wk mem := hP1.far hgs (fun cs e => absurd (cells_typeM (hc.symm.trans e)) (by decide)) (fun cs e => absurd (cells_typeM (hc.symm.trans e)) (by decide)) (by simp [Value.ownBlock]; omega)
  have hm1 : W'.heap[rM]? = some (.map (regE trV K) K.length) := (hg.block rM (row_lt h.map) (fun e => by
    obtain ⟨cs, hcs⟩ := owns_int (h.pt.fam.own (N + j) (by omega)) e.symm
    exact cells_map (hcs.symm.trans h.map))).trans h.map
  refine ⟨hcell, frozen_of_row _ _ j _ _ hc, hP2, ?_, ?_, hnew, h.newM, hgl, h.ws, h2, h.low, fun i hi => ?_, fun i hi => ?_, (h.kept.fam h.pt.size h.pt.fam (i := N + j) (by omega) hg).fresh h.ws hgs hnew⟩
  · refine (hgs.block rM (row_lt hm1) (fun e => ?_)).trans hm1
    cases e
    exact cells_map (hc.symm.trans hm1)
  · have := (ho.stored j u).1
    rw [gvL_set] at this
    exact this
  · rw [upd_ne _ _ (by omega), updL_ne _ _ (by omega)]
    exact h.old i hi
  · by_cases e : i = j
    · subst e
      rw [updL_same]
      simp [intsN]
    · rw [updL_ne _ _ (by omega)]
      simp only [if_neg e]
      exact h.grp i hi
end
end Go.Proofs.Ytgbdlgogccgciaa
