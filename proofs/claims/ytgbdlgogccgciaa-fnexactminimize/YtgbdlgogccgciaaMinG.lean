import Derived.Test.YtgbdlgogccgciaaMinDMinE
namespace Go.Proofs.Ytgbdlgogccgciaa
open Go.RowKit

/- A MATRIX OF BOOLS: a row of rows of the call's own. -/
def blRow (n : Nat) (f : Nat → Bool) : Array Value := ((List.range n).map fun i => Value.bool (f i)).toArray
theorem blRow_get (n : Nat) (f : Nat → Bool) {i : Nat} (h : i < n) : (blRow n f)[i]? = some (.bool (f i)) := by simp [blRow, h]
theorem blRow_set (n : Nat) (f : Nat → Bool) (i : Nat) (b : Bool) : (blRow n f).setIfInBounds i (.bool b) = blRow n (fun j => if j = i then b else f j) := by
  apply Array.ext_getElem?
  intro j
  rw [Array.getElem?_setIfInBounds]
  have hs : (blRow n f).size = n := by simp [blRow]
  have h1 : ∀ g : Nat → Bool, ¬j < n → (blRow n g)[j]? = none := fun g hj => Array.getElem?_eq_none (by simp [blRow]; omega)
  by_cases h : j < n
  · by_cases e : i = j
    · subst e
      rw [if_pos rfl, hs, if_pos h, blRow_get n _ h]
      simp
    · rw [if_neg e, blRow_get n f h, blRow_get n _ h]
      simp
      intro k
      exact absurd k.symm e
  · rw [h1 _ h, h1 _ h]
    by_cases e : i = j
    · subst e; rw [if_pos rfl, hs, if_neg h]
    · rw [if_neg e]
def slcB (gr : Nat → Nat) (n k : Nat) : List Value := (List.range k).map fun x => .slice (some ⟨gr x, 0, none⟩) n n
theorem slcB_succ (gr : Nat → Nat) (n k : Nat) : slcB gr n (k + 1) = slcB gr n k ++ [.slice (some ⟨gr k, 0, none⟩) n n] := by simp [slcB, List.range_succ]
theorem slcB_congr {gr gr' : Nat → Nat} {n k : Nat} (h : ∀ x, x < k → gr x = gr' x) : slcB gr n k = slcB gr' n k := List.map_congr_left fun x hx => by rw [h x (by simpa using hx)]
theorem cells_typeM {a b : Array Value} {t u : TypeId} {f g : Nat × Nat} (h : some (Obj.cells a t f) = some (Obj.cells b u g)) : t = u := by
  injection h with h
  injection h
theorem own_keepM {w W : World} {base : Nat} {e : TypeId} {sz : Nat} {v : Value} {n : Nat} {xs : List Value} (h : w.ownsRow base e sz v n xs) (hk : ∀ (k : Nat) (cs : Array Value), w.heap[k]? = some (.cells cs e (0, 0)) → W.heap[k]? = some (.cells cs e (0, 0))) : W.ownsRow base e sz v n xs := by
  refine ⟨h.1, ?_⟩
  rcases h.2 with h0 | ⟨g, cap, cur, hv, hg, hh, r⟩
  · exact .inl h0
  · exact .inr ⟨g, cap, cur, hv, hg, hk g cur hh, r⟩
theorem grown_putM (W : World) (b j : Nat) (v : Value) : W.grownBy (W.setCell ⟨b, j, none⟩ v) (some b) :=
  ⟨rfl, rfl, rfl, by simp [World.setCell], fun k _ hk => Below.heap_setCell _ _ _ _ (fun e => hk (by rw [e]))⟩

/-- k rows of n bools: m x y. -/
structure MatI (B : Nat) (w : World) (n k : Nat) (v : Value) (gr : Nat → Nat) (m : Nat → Nat → Bool) : Prop where
  out : w.ownsRow B 37 1 v k (slcB gr n k)
  rows : ∀ x, x < k → w.heap[gr x]? = some (.cells (blRow n (m x)) 4 (0, 0))
  base : ∀ x, x < k → B ≤ gr x
  inj : ∀ x y, x < k → y < k → gr x = gr y → x = y
theorem MatI.below {B : Nat} {w w' : World} {n k : Nat} {v : Value} {gr : Nat → Nat} {m : Nat → Nat → Bool} (h : MatI B w n k v gr m) (hb : Below w.heap.size w w') : MatI B w' n k v gr m :=
  ⟨ownsRow_below h.out hb, fun x hx => (hb.block _ (Array.getElem?_eq_some_iff.1 (h.rows x hx)).1).trans (h.rows x hx), h.base, h.inj⟩
theorem MatI.cell {B : Nat} {w : World} {n k : Nat} {v : Value} {gr : Nat → Nat} {m : Nat → Nat → Bool} (h : MatI B w n k v gr m) {x y : Nat} (hx : x < k) (hy : y < n) : w.cell? ⟨gr x, y, none⟩ = some (.bool (m x y)) ∧ w.frozen? ⟨gr x, y, none⟩ = false := by
  have r := h.rows x hx
  exact ⟨by rw [cell_of_row _ _ _ _ _ _ r, blRow_get n _ hy], frozen_of_row _ _ y _ _ r⟩
theorem MatI.outer {B : Nat} {w : World} {n k : Nat} {v : Value} {gr : Nat → Nat} {m : Nat → Nat → Bool} (h : MatI B w n k v gr m) (hk : 0 < k) : ∃ g cap, v = .slice (some ⟨g, 0, none⟩) k cap ∧ B ≤ g ∧ g < w.heap.size ∧ ∀ x, x < k → w.cell? ⟨g, x, none⟩ = some (.slice (some ⟨gr x, 0, none⟩) n n) := by
  rcases h.out.2 with ⟨_, h0⟩ | ⟨g, cap, cur, hv, hg, hh, hnc, _, hsz, ht⟩
  · omega
  · refine ⟨g, cap, hv, hg, (Array.getElem?_eq_some_iff.1 hh).1, fun x hx => ?_⟩
    rw [cell_of_row _ _ _ _ _ _ hh]
    have : (slcB gr n k)[x]? = cur[x]? := by rw [← ht, List.getElem?_take, if_pos (by omega), Array.getElem?_toList]
    rw [← this]
    simp [slcB, hx]
/-- A pair set. -/
theorem MatI.put {B : Nat} {w : World} {n k : Nat} {v : Value} {gr : Nat → Nat} {m : Nat → Nat → Bool} (h : MatI B w n k v gr m) {x : Nat} (hx : x < k) (y : Nat) : MatI B (w.setCell ⟨gr x, y, none⟩ (.bool true)) n k v gr (putM m x y) := by
  have r := h.rows x hx
  have hg := grown_putM w (gr x) y (.bool true)
  refine ⟨own_keepM h.out fun q cs e => (hg.block q (Array.getElem?_eq_some_iff.1 e).1 (fun e2 => ?_)).trans e, fun a ha => ?_, h.base, h.inj⟩
  · cases e2
    rw [r] at e
    exact absurd (cells_typeM e) (by decide)
  · by_cases e : a = x
    · subst e
      have := heap_setCell_same w (gr a) y _ _ (.bool true) r
      rw [blRow_set] at this
      rw [this]
      congr 3
      funext j
      unfold putM
      by_cases ej : j = y
      · rw [if_pos ej, if_pos ⟨rfl, ej⟩]
      · rw [if_neg ej, if_neg (fun k => ej k.2)]
    · have hne : some (gr a) ≠ some (gr x) := fun e2 => e (h.inj a x ha hx (Option.some.inj e2))
      rw [hg.block _ (Array.getElem?_eq_some_iff.1 (h.rows a ha)).1 hne, h.rows a ha]
      congr 3
      funext j
      unfold putM
      rw [if_neg (fun k => e k.1)]
theorem Try.infoBoolM : (Try.prog.info? 4).map (fun i => (i.zero, i.size, i.bytes)) = some (some (.bool false), 1, 1) := by kernel_rfl
theorem Try.infoBoolsM : (Try.prog.info? 37).map (fun i => (i.zero, i.size, i.bytes)) = some (some (.slice none 0 0), 1, 24) := by kernel_rfl
theorem made_bools (n : Nat) : (madeCells (Value.bool false).cells (n * 1)).toList.toArray = blRow n (fun _ => false) := by
  apply Array.ext_getElem?
  intro i
  by_cases h : i < n
  · simp [madeCells, blRow, Value.cells, Nat.mod_one, h]
  · simp [madeCells, blRow, h]
theorem own_fullM {w : World} {base : Nat} {e : TypeId} {g n : Nat} {xs : List Value} (h : w.ownsRow base e 1 (.slice (some ⟨g, 0, none⟩) n n) n xs) : w.heap[g]? = some (.cells xs.toArray e (0, 0)) := by
  rcases h.2 with ⟨h, _⟩ | ⟨g', cap, cr, h, _, hrow, _, _, hsz, htk⟩
  · cases h
  · cases h
    rw [hrow]
    congr 2
    apply Array.ext'
    rw [List.take_of_length_le (by simp [hsz])] at htk
    rw [htk]
/-- What the first pass sets. -/
def ansM (d : DfaD) (l : List Nat) (x y : Nat) : Bool := !(d.tag.getD (l.getD x 0) 0 == d.tag.getD (l.getD y 0) 0) || !(d.fin.getD (l.getD x 0) 0 == d.fin.getD (l.getD y 0) 0)
theorem ansM_start (d : DfaD) (l : List Nat) : ApI d l (ansM d l) :=
  ⟨fun x y _ _ e al => by
    have h := al.an
    unfold anN at h
    unfold ansM at e
    injection h with h1 h2
    rw [h1, h2] at e
    simp at e, fun x y _ _ e => by
    unfold ansM
    by_cases h1 : d.tag.getD (l.getD x 0) 0 = d.tag.getD (l.getD y 0) 0
    · by_cases h2 : d.fin.getD (l.getD x 0) 0 = d.fin.getD (l.getD y 0) 0
      · exact absurd (by unfold anN; rw [h1, h2]) e
      · rw [beq_eq_false_iff_ne.2 h2]; simp
    · rw [beq_eq_false_iff_ne.2 h1]; simp⟩
end Go.Proofs.Ytgbdlgogccgciaa
