import Derived.Test.YtplhghhfdabccaaInts
import Derived.Test.YtplhghhfdabccaaRow
namespace Go.Proofs.Ytplhghhfdabccaa
open Go.RowKit

/- A STRUCT WHOSE FIELDS ARE ROWS OF THE CALL's OWN. -/
def intV (x : Int) : Value := .int .i64 x
def Owns (B : Nat) (W : World) (v : Value) (xs : List Int) : Prop := W.ownsRow B 3 1 v xs.length (xs.map intV)
def updL (l : Nat → List Int) (k : Nat) (x : List Int) : Nat → List Int := fun j => if j = k then x else l j
theorem updL_same (l : Nat → List Int) (k : Nat) (x : List Int) : updL l k x k = x := by simp [updL]
theorem updL_ne (l : Nat → List Int) {k j : Nat} (x : List Int) (h : j ≠ k) : updL l k x j = l j := by simp [updL, h]
theorem upd_ne (S : Nat → Value) (v : Value) {j k : Nat} (h : j ≠ k) : upd S k v j = S j := by simp [upd, h]

/-- n rows in blocks behind gt, no two in one block. -/
structure Fam (gt n : Nat) (W : World) (v : Nat → Value) (l : Nat → List Int) : Prop where
  own : ∀ i, i < n → Owns (gt + 1) W (v i) (l i)
  apart : ∀ i j, i < n → j < n → i ≠ j → ∀ b, (v i).ownBlock = some b → (v j).ownBlock ≠ some b

theorem owns_block {B : Nat} {W : World} {v : Value} {xs : List Int} (h : Owns B W v xs) {b : Nat} (hb : v.ownBlock = some b) : B ≤ b ∧ b < W.heap.size := by
  rcases h.2 with ⟨rfl, _⟩ | ⟨g, cap, cur, rfl, hg, hh, _⟩
  · simp [Value.ownBlock] at hb
  · simp [Value.ownBlock] at hb; subst hb; exact ⟨hg, (Array.getElem?_eq_some_iff.1 hh).1⟩
theorem owns_keep {B : Nat} {W W' : World} {v : Value} {xs : List Int} (h : Owns B W v xs) (hk : ∀ b, v.ownBlock = some b → W'.heap[b]? = W.heap[b]?) : Owns B W' v xs := by
  refine ⟨h.1, ?_⟩
  rcases h.2 with h2 | ⟨g, cap, cur, rfl, hg, hh, r⟩
  · exact .inl h2
  · exact .inr ⟨g, cap, cur, rfl, hg, by rw [hk g rfl]; exact hh, r⟩
theorem Fam.keep {gt n : Nat} {W W' : World} {v : Nat → Value} {l : Nat → List Int} (h : Fam gt n W v l) (hk : ∀ b, gt < b → b < W.heap.size → W'.heap[b]? = W.heap[b]?) : Fam gt n W' v l :=
  ⟨fun i hi => owns_keep (h.own i hi) fun b hb => by have := owns_block (h.own i hi) hb; exact hk b (by omega) this.2, h.apart⟩
theorem Fam.below {gt n : Nat} {W W' : World} {v : Nat → Value} {l : Nat → List Int} (h : Fam gt n W v l) (hb : Below W.heap.size W W') : Fam gt n W' v l := h.keep fun b _ hl => hb.block b hl
theorem Fam.set {gt n : Nat} {W : World} {v : Nat → Value} {l : Nat → List Int} (h : Fam gt n W v l) (o : Nat) (u : Value) : Fam gt n (W.setCell ⟨gt, o, none⟩ u) v l := h.keep fun b hb _ => heap_setCell_other _ _ _ _ (by simp; omega)
/-- One more in row i. -/
theorem Fam.append {gt n : Nat} {W W' : World} {v : Nat → Value} {l : Nat → List Int} (h : Fam gt n W v l) {i : Nat} (hi : i < n) {g cap : Nat} {x : Int}
    (own : W'.ownsRow (gt + 1) 3 1 (.slice (some ⟨g, 0, none⟩) ((l i).length + 1) cap) ((l i).length + 1) ((l i).map intV ++ [.int .i64 x])) (grow : W.grownBy W' (v i).ownBlock) (at' : (v i).ownBlock = some g ∨ W.heap.size ≤ g) :
    Fam gt n W' (upd v i (.slice (some ⟨g, 0, none⟩) ((l i).length + 1) cap)) (updL l i (l i ++ [x])) := by
  refine ⟨fun j hj => ?_, fun j k hj hk hne b hb => ?_⟩
  · by_cases e : j = i
    · subst e
      rw [upd_same, updL_same]
      unfold Owns
      rw [List.length_append, List.map_append]
      exact own
    · rw [upd_ne _ _ e, updL_ne _ _ e]
      refine owns_keep (h.own j hj) fun b hb => ?_
      have hlt := owns_block (h.own j hj) hb
      exact grow.block b hlt.2 (fun hc => h.apart j i hj hi e b hb hc.symm)
  · have key : ∀ j, j < n → j ≠ i → ∀ b, (v j).ownBlock = some b → b ≠ g := by
      intro j2 hj2 e2 b2 hb2 hbg
      rcases at' with a2 | a2
      · rw [← hbg] at a2; exact h.apart j2 i hj2 hi e2 b2 hb2 a2
      · have := (owns_block (h.own j2 hj2) hb2).2; omega
    by_cases e : j = i
    · subst e
      rw [upd_same] at hb
      rw [upd_ne _ _ (Ne.symm hne)]
      simp [Value.ownBlock] at hb
      subst hb
      intro hc
      exact key k hk (Ne.symm hne) _ hc rfl
    · rw [upd_ne _ _ e] at hb
      by_cases e2 : k = i
      · subst e2
        rw [upd_same]
        intro hc
        simp [Value.ownBlock] at hc
        exact key j hj e b hb hc.symm
      · rw [upd_ne _ _ e2]
        exact h.apart j k hj hk hne b hb
theorem Fam.nil (gt n : Nat) (W : World) : Fam gt n W (fun _ => .slice none 0 0) (fun _ => []) :=
  ⟨fun _ _ => ⟨rfl, .inl ⟨rfl, rfl⟩⟩, fun _ _ _ _ _ b hb => by simp [Value.ownBlock] at hb⟩
/-- Such a row can be read. -/
theorem Owns.at {B : Nat} {W : World} {v : Value} {xs : List Int} (h : Owns B W v xs) (hl : xs.length ≤ 9223372036854775807) : IntsAt B W v xs := by
  rcases h.2 with ⟨rfl, h0⟩ | ⟨g, cap, cur, rfl, hg, hh, hn, hcap, hsz, ht⟩
  · have : xs = [] := List.eq_nil_of_length_eq_zero h0
    subst this
    exact ⟨none, 0, rfl, by simp, fun h => absurd h (by simp)⟩
  · refine ⟨some ⟨g, 0, none⟩, cap, rfl, hl, fun _ => ⟨g, 0, rfl, hg, (Array.getElem?_eq_some_iff.1 hh).1, fun i hi => ?_⟩⟩
    have : W.ownsRow B 3 1 (.slice (some ⟨g, 0, none⟩) xs.length cap) xs.length (xs.map intV) := h
    rw [Nat.zero_add, this.cellAt i (by omega)]
    simp [intV, List.getD, hi]
end Go.Proofs.Ytplhghhfdabccaa
