import Derived.Test.YtgbdlgogccgciaaMiI
import Derived.Test.YtgbdlgogccgciaaLst
import Derived.Test.YtgbdlgogccgciaaMiM
namespace Go.Proofs.Ytgbdlgogccgciaa
open Go.RowKit

/- A TRAIT WRITTEN. -/
theorem trRow_size (n : Nat) (tr : Nat → Tr) : (trRow n tr).size = n * 5 := by
  unfold trRow
  rw [List.size_toArray]
  induction n with
  | zero => simp
  | succ n ih => rw [List.range_succ, List.flatMap_append, List.length_append, ih]; simp [trC, Nat.succ_mul]
theorem trRow_at (n : Nat) (tr : Nat → Tr) {i : Nat} (h : i < n * 5) : (trRow n tr)[i]? = (trC (tr (i / 5)))[i % 5]? := by
  have := trRow_get n tr (s := i / 5) (i := i % 5) (by omega) (by omega)
  rw [show i / 5 * 5 + i % 5 = i by omega] at this
  exact this
def updT (tr : Nat → Tr) (s : Nat) (t : Tr) : Nat → Tr := fun j => if j = s then t else tr j
theorem trRow_set (n : Nat) (tr : Nat → Tr) (s : Nat) (t : Tr) :
    (((((trRow n tr).setIfInBounds (s * 5) (.int .u64 (t.1 : Int))).setIfInBounds (s * 5 + 1) (.int .u64 (t.2.1 : Int))).setIfInBounds (s * 5 + 2) (.int .u64 (t.2.2.1 : Int))).setIfInBounds (s * 5 + 3) (.int .u64 (t.2.2.2.1 : Int))).setIfInBounds (s * 5 + 4) (.int .u64 (t.2.2.2.2 : Int)) = trRow n (updT tr s t) := by
  apply Array.ext_getElem?
  intro i
  have hs := trRow_size n tr
  by_cases hi : i < n * 5
  · rw [trRow_at n _ hi]
    simp only [Array.getElem?_setIfInBounds, Array.size_setIfInBounds, hs]
    unfold updT
    by_cases e : i / 5 = s
    · rw [if_pos e]
      have hr : i % 5 = 0 ∨ i % 5 = 1 ∨ i % 5 = 2 ∨ i % 5 = 3 ∨ i % 5 = 4 := by omega
      rcases hr with k | k | k | k | k
      · rw [if_neg (by omega), if_neg (by omega), if_neg (by omega), if_neg (by omega), if_pos (by omega), if_pos (by omega), k]; rfl
      · rw [if_neg (by omega), if_neg (by omega), if_neg (by omega), if_pos (by omega), if_pos (by omega), k]; rfl
      · rw [if_neg (by omega), if_neg (by omega), if_pos (by omega), if_pos (by omega), k]; rfl
      · rw [if_neg (by omega), if_pos (by omega), if_pos (by omega), k]; rfl
      · rw [if_pos (by omega), if_pos (by omega), k]; rfl
    · rw [if_neg e, if_neg (by omega), if_neg (by omega), if_neg (by omega), if_neg (by omega), if_neg (by omega), trRow_at n _ hi]
  · rw [Array.getElem?_eq_none (by simp only [Array.size_setIfInBounds, hs]; omega), Array.getElem?_eq_none (by rw [trRow_size]; omega)]
theorem set5_heap {W : World} {g n : Nat} {tr : Nat → Tr} (h : W.heap[g]? = some (.cells (trRow n tr) 68 (0, 0))) (s : Nat) (t : Tr) :
    (((((W.setCell ⟨g, s * 5, none⟩ (.int .u64 (t.1 : Int))).setCell ⟨g, s * 5 + 1, none⟩ (.int .u64 (t.2.1 : Int))).setCell ⟨g, s * 5 + 2, none⟩ (.int .u64 (t.2.2.1 : Int))).setCell ⟨g, s * 5 + 3, none⟩ (.int .u64 (t.2.2.2.1 : Int))).setCell ⟨g, s * 5 + 4, none⟩ (.int .u64 (t.2.2.2.2 : Int))).heap[g]? = some (.cells (trRow n (updT tr s t)) 68 (0, 0)) := by
  have h1 := heap_setCell_same W g (s * 5) _ _ (.int .u64 (t.1 : Int)) h
  have h2 := heap_setCell_same _ g (s * 5 + 1) _ _ (.int .u64 (t.2.1 : Int)) h1
  have h3 := heap_setCell_same _ g (s * 5 + 2) _ _ (.int .u64 (t.2.2.1 : Int)) h2
  have h4 := heap_setCell_same _ g (s * 5 + 3) _ _ (.int .u64 (t.2.2.2.1 : Int)) h3
  have h5 := heap_setCell_same _ g (s * 5 + 4) _ _ (.int .u64 (t.2.2.2.2 : Int)) h4
  rw [trRow_set] at h5
  exact h5
theorem made_traits (n : Nat) : (madeCells (Value.agg (trC kz)).cells (n * 5)).toList.toArray = trRow n (fun _ => kz) := by
  apply Array.ext_getElem?
  intro i
  by_cases hi : i < n * 5
  · rw [trRow_at n _ hi]
    have hm : i % 5 < 5 := Nat.mod_lt _ (by omega)
    simp only [madeCells, Value.cells, trC, kz]
    have hr : i % 5 = 0 ∨ i % 5 = 1 ∨ i % 5 = 2 ∨ i % 5 = 3 ∨ i % 5 = 4 := by omega
    rcases hr with k | k | k | k | k <;> simp [hi, k]
  · rw [Array.getElem?_eq_none (by simp [madeCells]; omega), Array.getElem?_eq_none (by rw [trRow_size]; omega)]
theorem Try.infoTrait : (Try.prog.info? 68).map (fun i => (i.zero, i.size, i.bytes)) = some (some (.agg (trC kz)), 5, 40) := by kernel_rfl
end Go.Proofs.Ytgbdlgogccgciaa
namespace Go.Proofs.Ytgbdlgogccgciaa
open Go.RowKit

/-- A row of a family made shorter: s[:k]. -/
theorem Fam.shrink {gt n : Nat} {W : World} {v : Nat → Value} {l : Nat → List Int} (h : Fam gt n W v l) {i : Nat} (hi : i < n) {g m cap k : Nat} (hv : v i = .slice (some ⟨g, 0, none⟩) m cap) (hm : (l i).length = m) (hk : k ≤ m) : Fam gt n W (upd v i (.slice (some ⟨g, 0, none⟩) k cap)) (updL l i ((l i).take k)) := by
  refine ⟨fun j hj => ?_, fun a b ha hb hne c hc => ?_⟩
  · by_cases e : j = i
    · subst e
      rw [upd_same, updL_same]
      have ho := h.own j hj
      unfold Owns at ho ⊢
      have hl : ((l j).take k).length = k := by rw [List.length_take]; omega
      rw [hv, hm] at ho
      rw [hl]
      refine ⟨by rw [List.length_map, hl]; omega, ?_⟩
      rcases ho.2 with ⟨h0, _⟩ | ⟨g', cap', cur, hv', hg, hh, hnc, hcap, hsz, ht⟩
      · cases h0
      · cases hv'
        refine .inr ⟨g, cap, cur, rfl, hg, hh, by omega, hcap, hsz, ?_⟩
        have : List.take (k * 1) cur.toList = (List.take (m * 1) cur.toList).take k := by rw [List.take_take, Nat.mul_one, Nat.mul_one, Nat.min_eq_left hk]
        rw [this, ht, List.map_take]
    · rw [upd_ne _ _ e, updL_ne _ _ e]
      exact h.own j hj
  · have key : ∀ a c, (upd v i (.slice (some ⟨g, 0, none⟩) k cap) a).ownBlock = some c ↔ (v a).ownBlock = some c := fun a c => by
      by_cases e : a = i
      · subst e; rw [upd_same, hv]; rfl
      · rw [upd_ne _ _ e]
    rw [Ne, key]
    exact h.apart a b ha hb hne c ((key a c).1 hc)
/-- work made shorter. -/
theorem PtS.pop {gt : Nat} {W : World} {p : Nat} {mv : Value} {m : Nat} {mi : Nat → Nat} {v : Nat → Value} {l : Nat → List Int} {N : Nat} {o wk : List Nat} {mem : Nat → List Nat} (h : PtS gt W p mv m mi v l N o wk mem) {g cap k : Nat} (hv : v 1 = .slice (some ⟨g, 0, none⟩) wk.length cap) (hk : k ≤ wk.length) :
    PtS gt (W.setCell ⟨p, 2, none⟩ (.slice (some ⟨g, 0, none⟩) k cap)) p mv m mi (upd v 1 (.slice (some ⟨g, 0, none⟩) k cap)) (updL l 1 (intsN (wk.take k))) N o (wk.take k) mem := by
  have h2 := h.two
  have hF := h.fam.shrink (i := 1) (by omega) hv (by rw [h.l1, intsN_len]) hk
  rw [h.l1, show (intsN wk).take k = intsN (wk.take k) by simp [intsN, List.map_take]] at hF
  have hgp := grown_putM W p 2 (.slice (some ⟨g, 0, none⟩) k cap)
  refine ⟨hF.other h.box (by decide) hgp, h2, ?_, h.pge, ?_, h.idx, by rw [updL_ne _ _ (by omega)]; exact h.l0, updL_same _ _ _, fun x hx => by rw [updL_ne _ _ (by have := (h.idx x hx).1; omega)]; exact h.lm x hx⟩
  · rw [upd_ne _ _ (by omega), upd_same]
    exact heap_setCell_same _ _ _ _ _ _ h.box
  · rw [mvL_congr (v' := v) (mi' := mi) (fun x hx => upd_ne _ _ (by have := (h.idx x hx).1; omega))]
    exact own_keepM h.out fun b cs hb => (hgp.block b (row_lt hb) (fun e => by
      have e2 : b = p := Option.some.inj e
      rw [e2, h.box] at hb
      exact absurd (cells_typeM hb) (by decide))).trans hb
/-- A trait held against the empty one. -/
theorem Try.eqlTr (a b c d e a' b' c' d' e' : Nat) (w : World) : (binOp .eql 68 (.agg #[.int .u64 (a : Int), .int .u64 (b : Int), .int .u64 (c : Int), .int .u64 (d : Int), .int .u64 (e : Int)]) (.agg #[.int .u64 (a' : Int), .int .u64 (b' : Int), .int .u64 (c' : Int), .int .u64 (d' : Int), .int .u64 (e' : Int)])).run Try.prog w = .ok (.bool (decide ((a, b, c, d, e) = (a', b', c', d', e')))) w := by
  have h := Try.eqTr (a, b, c, d, e) (a', b', c', d', e') w
  unfold trV trC at h
  rw [run_eql_struct]
  dsimp only at h
  rw [h]
  rfl
/-- One word of a trait written. -/
theorem set1_heap {W : World} {g n : Nat} {tr : Nat → Tr} (h : W.heap[g]? = some (.cells (trRow n tr) 68 (0, 0))) {s j : Nat} (hs : s < n) (hj : j < 4) (T : Nat → Nat) (hT : tr s = trW T) (x : Nat) :
    (W.setCell ⟨g, s * 5 + (j + 1), none⟩ (.int .u64 (x : Int))).heap[g]? = some (.cells (trRow n (updT tr s (trW (fun i => if i = j then x else T i)))) 68 (0, 0)) := by
  have h1 := heap_setCell_same W g (s * 5 + (j + 1)) _ _ (.int .u64 (x : Int)) h
  rw [h1]
  congr 2
  apply Array.ext_getElem?
  intro i
  have hsz := trRow_size n tr
  by_cases hi : i < n * 5
  · rw [trRow_at n _ hi, Array.getElem?_setIfInBounds, hsz]
    unfold updT
    by_cases e : i / 5 = s
    · rw [if_pos e]
      by_cases e2 : s * 5 + (j + 1) = i
      · rw [if_pos e2, if_pos (by omega)]
        have hm : i % 5 = j + 1 := by omega
        rw [hm]
        have : j = 0 ∨ j = 1 ∨ j = 2 ∨ j = 3 := by omega
        rcases this with k | k | k | k <;> subst k <;> rfl
      · rw [if_neg e2, trRow_at n _ hi, e, hT]
        have hr : i % 5 = 0 ∨ i % 5 = 1 ∨ i % 5 = 2 ∨ i % 5 = 3 ∨ i % 5 = 4 := by omega
        rcases hr with k | k | k | k | k <;> rw [k]
        · rfl
        · have : ¬0 = j := by omega
          simp [trC, trW, this]
        · have : ¬1 = j := by omega
          simp [trC, trW, this]
        · have : ¬2 = j := by omega
          simp [trC, trW, this]
        · have : ¬3 = j := by omega
          simp [trC, trW, this]
    · rw [if_neg e, if_neg (by omega), trRow_at n _ hi]
  · rw [Array.getElem?_eq_none (by simp only [Array.size_setIfInBounds, hsz]; omega), Array.getElem?_eq_none (by rw [trRow_size]; omega)]
end Go.Proofs.Ytgbdlgogccgciaa
