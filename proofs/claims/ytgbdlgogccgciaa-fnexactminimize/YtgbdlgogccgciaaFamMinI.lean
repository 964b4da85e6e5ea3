import Derived.Test.YtgbdlgogccgciaaBtwInts
import Derived.Test.YtgbdlgogccgciaaRowRun
import Derived.Test.YtgbdlgogccgciaaMinH
namespace Go.Proofs.Ytgbdlgogccgciaa
open Go.RowKit

/- A STRUCT WHOSE FIELDS ARE ROWS OF THE CALL's OWN. -/
def intV (x : Int) : Value := .int .i64 x
def Owns (B : Nat) (W : World) (v : Value) (xs : List Int) : Prop := W.ownsRow B 3 1 v xs.length (xs.map intV)
def updL (l : Nat → List Int) (k : Nat) (x : List Int) : Nat → List Int := fun j => if j = k then x else l j
theorem updL_same (l : Nat → List Int) (k : Nat) (x : List Int) : updL l k x k = x := by simp [updL]
theorem updL_ne (l : Nat → List Int) {k j : Nat} (x : List Int) (h : j ≠ k) : updL l k x j = l j := by simp [updL, h]
theorem upd_ne (S : Nat → Value) (v : Value) {j k : Nat} (h : j ≠ k) : upd S k v j = S j := by simp [upd, h]

/-- n rows in blocks behind gt, no two in one block. -/
structure Fam (gt n : Nat) (W : World) (v : Nat → Value) (l : Nat → List Int) : Prop where
  own : ∀ i, i < n → Owns (gt + 1) W (v i) (l i)
  apart : ∀ i j, i < n → j < n → i ≠ j → ∀ b, (v i).ownBlock = some b → (v j).ownBlock ≠ some b

theorem owns_block {B : Nat} {W : World} {v : Value} {xs : List Int} (h : Owns B W v xs) {b : Nat} (hb : v.ownBlock = some b) : B ≤ b ∧ b < W.heap.size := by
  rcases h.2 with ⟨rfl, _⟩ | ⟨g, cap, cur, rfl, hg, hh, _⟩
  · simp [Value.ownBlock] at hb
  · simp [Value.ownBlock] at hb; subst hb; exact ⟨hg, (Array.getElem?_eq_some_iff.1 hh).1⟩
theorem owns_keep {B : Nat} {W W' : World} {v : Value} {xs : List Int} (h : Owns B W v xs) (hk : ∀ b, v.ownBlock = some b → W'.heap[b]? = W.heap[b]?) : Owns B W' v xs := by
  refine ⟨h.1, ?_⟩
  rcases h.2 with h2 | ⟨g, cap, cur, rfl, hg, hh, r⟩
  · exact .inl h2
  · exact .inr ⟨g, cap, cur, rfl, hg, by rw [hk g rfl]; exact hh, r⟩
theorem Fam.keep {gt n : Nat} {W W' : World} {v : Nat → Value} {l : Nat → List Int} (h : Fam gt n W v l) (hk : ∀ b, gt < b → b < W.heap.size → W'.heap[b]? = W.heap[b]?) : Fam gt n W' v l :=
  ⟨fun i hi => owns_keep (h.own i hi) fun b hb => by have := owns_block (h.own i hi) hb; exact hk b (by omega) this.2, h.apart⟩
theorem Fam.below {gt n : Nat} {W W' : World} {v : Nat → Value} {l : Nat → List Int} (h : Fam gt n W v l) (hb : Below W.heap.size W W') : Fam gt n W' v l := h.keep fun b _ hl => hb.block b hl
theorem Fam.set {gt n : Nat} {W : World} {v : Nat → Value} {l : Nat → List Int} (h : Fam gt n W v l) (o : Nat) (u : Value) : Fam gt n (W.setCell ⟨gt, o, none⟩ u) v l := h.keep fun b hb _ => heap_setCell_other _ _ _ _ (by simp; omega)
/-- One more in row i. -/
theorem Fam.append {gt n : Nat} {W W' : World} {v : Nat → Value} {l : Nat → List Int} (h : Fam gt n W v l) {i : Nat} (hi : i < n) {g cap : Nat} {x : Int}
    (own : W'.ownsRow (gt + 1) 3 1 (.slice (some ⟨g, 0, none⟩) ((l i).length + 1) cap) ((l i).length + 1) ((l i).map intV ++ [.int .i64 x])) (grow : W.grownBy W' (v i).ownBlock) (at' : (v i).ownBlock = some g ∨ W.heap.size ≤ g) :
    Fam gt n W' (upd v i (.slice (some ⟨g, 0, none⟩) ((l i).length + 1) cap)) (updL l i (l i ++ [x])) := by
  refine ⟨fun j hj => ?_, fun j k hj hk hne b hb => ?_⟩
  · by_cases e : j = i
    · subst e
      rw [upd_same, updL_same]
      unfold Owns
      rw [List.length_append, List.map_append]
      exact own
    · rw [upd_ne _ _ e, updL_ne _ _ e]
      refine owns_keep (h.own j hj) fun b hb => ?_
      have hlt := owns_block (h.own j hj) hb
      exact grow.block b hlt.2 (fun hc => h.apart j i hj hi e b hb hc.symm)
  · have key : ∀ j, j < n → j ≠ i → ∀ b, (v j).ownBlock = some b → b ≠ g := by
      intro j2 hj2 e2 b2 hb2 hbg
      rcases at' with a2 | a2
      · rw [← hbg] at a2; exact h.apart j2 i hj2 hi e2 b2 hb2 a2
      · have := (owns_block (h.own j2 hj2) hb2).2; omega
    by_cases e : j = i
    · subst e
      rw [upd_same] at hb
      rw [upd_ne _ _ (Ne.symm hne)]
      simp [Value.ownBlock] at hb
      subst hb
      intro hc
      exact key k hk (Ne.symm hne) _ hc rfl
    · rw [upd_ne _ _ e] at hb
      by_cases e2 : k = i
      · subst e2
        rw [upd_same]
        intro hc
        simp [Value.ownBlock] at hc
        exact key j hj e b hb hc.symm
      · rw [upd_ne _ _ e2]
        exact h.apart j k hj hk hne b hb
theorem Fam.nil (gt n : Nat) (W : World) : Fam gt n W (fun _ => .slice none 0 0) (fun _ => []) :=
  ⟨fun _ _ => ⟨rfl, .inl ⟨rfl, rfl⟩⟩, fun _ _ _ _ _ b hb => by simp [Value.ownBlock] at hb⟩
/-- Such a row can be read. -/
theorem Owns.at {B : Nat} {W : World} {v : Value} {xs : List Int} (h : Owns B W v xs) (hl : xs.length ≤ 9223372036854775807) : IntsAt B W v xs := by
  rcases h.2 with ⟨rfl, h0⟩ | ⟨g, cap, cur, rfl, hg, hh, hn, hcap, hsz, ht⟩
  · have : xs = [] := List.eq_nil_of_length_eq_zero h0
    subst this
    exact ⟨none, 0, rfl, by simp, fun h => absurd h (by simp)⟩
  · refine ⟨some ⟨g, 0, none⟩, cap, rfl, hl, fun _ => ⟨g, 0, rfl, hg, (Array.getElem?_eq_some_iff.1 hh).1, fun i hi => ?_⟩⟩
    have : W.ownsRow B 3 1 (.slice (some ⟨g, 0, none⟩) xs.length cap) xs.length (xs.map intV) := h
    rw [Nat.zero_add, this.cellAt i (by omega)]
    simp [intV, List.getD, hi]
end Go.Proofs.Ytgbdlgogccgciaa
namespace Go.Proofs.Ytgbdlgogccgciaa
open Go.RowKit

/- THE CHIEF OF A STATE: the first of the list that is like it. -/
structure ChI (d : DfaD) (l : List Nat) (ch : Nat → Nat) : Prop where
  mem : ∀ s ∈ l, ch s ∈ l
  al : ∀ s ∈ l, Alike (stN d) (anN d) s (ch s)
  eq : ∀ s ∈ l, ∀ t ∈ l, Alike (stN d) (anN d) s t → ch s = ch t
def ChL (l : List Nat) (m : Nat → Nat → Bool) (zs : List Nat) (n k : Nat) : Prop :=
  zs.length = n ∧ ∀ i, i < k → ∃ q, q < l.length ∧ zs.getD (l.getD i 0) 0 = l.getD q 0 ∧ m i q = false ∧ ∀ j, j < q → m i j = true
theorem ChL.next {l : List Nat} {m : Nat → Nat → Bool} {zs : List Nat} {n k : Nat} (h : ChL l m zs n k) (hn : l.Nodup) (hk : k < l.length) (hl : l.getD k 0 < n) {q : Nat} (hq : q < l.length) (hm : m k q = false) (hj : ∀ j, j < q → m k j = true) : ChL l m (zs.set (l.getD k 0) (l.getD q 0)) n (k + 1) := by
  have h1 := h.1
  refine ⟨by simp [h.1], fun i hi => ?_⟩
  by_cases e : i = k
  · subst e
    exact ⟨q, hq, by rw [List.getD_eq_getElem?_getD, List.getElem?_set_self (by omega)]; rfl, hm, hj⟩
  · obtain ⟨q', a1, a2, a3, a4⟩ := h.2 i (by omega)
    have hne : l.getD k 0 ≠ l.getD i 0 := fun e2 => e (nodup_idx hn hk (by omega) e2).symm
    exact ⟨q', a1, by rw [List.getD_eq_getElem?_getD, List.getElem?_set_ne hne, ← List.getD_eq_getElem?_getD]; exact a2, a3, a4⟩
theorem ChL.chief {d : DfaD} {l : List Nat} {m : Nat → Nat → Bool} {zs : List Nat} {n : Nat} (h : ChL l m zs n l.length) (hm : ∀ x y, x < l.length → y < l.length → (m x y = false ↔ Alike (stN d) (anN d) (l.getD x 0) (l.getD y 0))) : ChI d l (fun s => zs.getD s 0) := by
  refine ⟨fun s hs => ?_, fun s hs => ?_, fun s hs t ht e => ?_⟩
  · obtain ⟨i, hi, rfl⟩ := idx_of hs
    obtain ⟨q, a1, a2, _⟩ := h.2 i hi
    show zs.getD (l.getD i 0) 0 ∈ l
    rw [a2]
    exact getD_mem a1
  · obtain ⟨i, hi, rfl⟩ := idx_of hs
    obtain ⟨q, a1, a2, a3, _⟩ := h.2 i hi
    show Alike _ _ _ (zs.getD (l.getD i 0) 0)
    rw [a2]
    exact (hm i q hi a1).1 a3
  · obtain ⟨i, hi, rfl⟩ := idx_of hs
    obtain ⟨i', hi', rfl⟩ := idx_of ht
    obtain ⟨q, a1, a2, a3, a4⟩ := h.2 i hi
    obtain ⟨q', b1, b2, b3, b4⟩ := h.2 i' hi'
    show zs.getD (l.getD i 0) 0 = zs.getD (l.getD i' 0) 0
    have hq : q = q' := by
      rcases Nat.lt_trichotomy q q' with k | k | k
      · have h1 := b4 q k
        rw [(hm i' q hi' a1).2 (e.symm.trans ((hm i q hi a1).1 a3))] at h1
        cases h1
      · exact k
      · have h1 := a4 q' k
        rw [(hm i q' hi b1).2 (e.trans ((hm i' q' hi' b1).1 b3))] at h1
        cases h1
    rw [a2, b2, hq]

/- THE WALK OVER CHIEFS. -/
structure OsI (d : DfaD) (l : List Nat) (ch : Nat → Nat) (os : List Nat) (k c : Nat) : Prop where
  al : Alikes (stN d) (anN d) os (walkA (stN d) (anN d) k c)
  can : ∀ o ∈ os, o ∈ l ∧ ch o = o
  nd : os.Nodup
theorem ChI.idem {d : DfaD} {l : List Nat} {ch : Nat → Nat} (h : ChI d l ch) {s : Nat} (hs : s ∈ l) : ch (ch s) = ch s := (h.eq s hs (ch s) (h.mem s hs) (h.al s hs)).symm
theorem OsI.start {d : DfaD} {l : List Nat} {ch : Nat → Nat} (h : ChI d l ch) (hR : RchD d l) : OsI d l ch [ch 0] 0 0 := by
  have h0 : (0 : Nat) ∈ l := by have := getD_mem hR.pos; rw [hR.head] at this; exact this
  refine ⟨?_, fun o ho => ?_, by simp⟩
  · rw [walkA_zero]
    exact .cons (h.al 0 h0).symm .nil
  · simp at ho
    subst ho
    exact ⟨h.mem 0 h0, h.idem h0⟩
/-- The place of a chief. -/
theorem place_idx {d : DfaD} {l : List Nat} {ch : Nat → Nat} (h : ChI d l ch) {os : List Nat} (hc : ∀ o ∈ os, o ∈ l ∧ ch o = o) {x : Nat} (hx : x ∈ l) (ex : ch x = x) : plF (intsN os) (x : Int) = if idxA (stN d) (anN d) os x < os.length then (idxA (stN d) (anN d) os x : Int) else -1 := by
  have e : (intsN os).findIdx (· == (x : Int)) = idxA (stN d) (anN d) os x := by
    unfold intsN idxA
    rw [List.findIdx_map]
    have hp : ∀ os' : List Nat, (∀ o ∈ os', o ∈ os) → os'.findIdx ((fun y : Int => y == (x : Int)) ∘ fun x : Nat => (x : Int)) = os'.findIdx fun o => decide (Alike (stN d) (anN d) o x) := by
      intro os' hs
      induction os' with
      | nil => rfl
      | cons o os' ih =>
        rw [List.findIdx_cons, List.findIdx_cons, ih (fun y hy => hs y (by simp [hy]))]
        have ho := hc o (hs o (by simp))
        have : ((fun y : Int => y == (x : Int)) ∘ fun x : Nat => (x : Int)) o = decide (Alike (stN d) (anN d) o x) := by
          by_cases al : Alike (stN d) (anN d) o x
          · have e := h.eq o ho.1 x hx al
            rw [ho.2, ex] at e
            subst e
            simp [al]
          · have : o ≠ x := fun e => al (e ▸ Alike.refl _ _ _)
            simp [al]
            omega
        rw [this]
    exact hp os fun _ h => h
  unfold plF
  rw [e, intsN_len]
theorem OsI.to {d : DfaD} {l : List Nat} {ch : Nat → Nat} (h : ChI d l ch) (hR : RchD d l) {os : List Nat} {k c : Nat} (hO : OsI d l ch os k c) (hk : k < os.length) (hc : c < 256) : stN d (os.getD k 0) c ∈ l ∧ ch (stN d (os.getD k 0) c) ∈ l ∧ ch (ch (stN d (os.getD k 0) c)) = ch (stN d (os.getD k 0) c) ∧ Alike (stN d) (anN d) (ch (stN d (os.getD k 0) c)) (stN d ((walkA (stN d) (anN d) k c).getD k 0) c) := by
  have h1 := hR.cl _ (hO.can _ (getD_mem hk)).1 c hc
  exact ⟨h1, h.mem _ h1, h.idem h1, (h.al _ h1).symm.trans ((hO.al.at k hk).step hc)⟩
/-- One byte. -/
theorem OsI.old {d : DfaD} {l : List Nat} {ch : Nat → Nat} (h : ChI d l ch) (hR : RchD d l) {os : List Nat} {k c : Nat} (hO : OsI d l ch os k c) (hk : k < os.length) (hc : c < 256) (hp : ¬plF (intsN os) (ch (stN d (os.getD k 0) c) : Int) < 0) :
    OsI d l ch os k (c + 1) ∧ plF (intsN os) (ch (stN d (os.getD k 0) c) : Int) = (rowA (stN d) (anN d) k c : Int) := by
  obtain ⟨h1, h2, h3, h4⟩ := hO.to h hR hk hc
  have hpl := place_idx h hO.can h2 h3
  have hi := hO.al.idx h4
  have hlt : idxA (stN d) (anN d) os (ch (stN d (os.getD k 0) c)) < os.length := by
    by_cases e : idxA (stN d) (anN d) os (ch (stN d (os.getD k 0) c)) < os.length
    · exact e
    · rw [if_neg e] at hpl; omega
  rw [if_pos hlt] at hpl
  refine ⟨⟨?_, hO.can, hO.nd⟩, ?_⟩
  · rw [walkA_succ]
    unfold addA
    rw [if_pos (by rw [← hi, ← hO.al.length]; exact hlt)]
    exact hO.al
  · rw [hpl, rowA_before, hi]
theorem OsI.new {d : DfaD} {l : List Nat} {ch : Nat → Nat} (h : ChI d l ch) (hR : RchD d l) {os : List Nat} {k c : Nat} (hO : OsI d l ch os k c) (hk : k < os.length) (hc : c < 256) (hp : plF (intsN os) (ch (stN d (os.getD k 0) c) : Int) < 0) :
    OsI d l ch (os ++ [ch (stN d (os.getD k 0) c)]) k (c + 1) ∧ plF (intsN (os ++ [ch (stN d (os.getD k 0) c)])) (ch (stN d (os.getD k 0) c) : Int) = (rowA (stN d) (anN d) k c : Int) := by
  obtain ⟨h1, h2, h3, h4⟩ := hO.to h hR hk hc
  have hpl := place_idx h hO.can h2 h3
  have hi := hO.al.idx h4
  have hlt : ¬idxA (stN d) (anN d) os (ch (stN d (os.getD k 0) c)) < os.length := by
    intro e
    rw [if_pos e] at hpl; omega
  have hcan : ∀ o ∈ os ++ [ch (stN d (os.getD k 0) c)], o ∈ l ∧ ch o = o := fun o ho => by
    rcases List.mem_append.1 ho with k1 | k1
    · exact hO.can o k1
    · simp at k1; subst k1; exact ⟨h2, h3⟩
  have hadd : Alikes (stN d) (anN d) (os ++ [ch (stN d (os.getD k 0) c)]) (walkA (stN d) (anN d) k (c + 1)) := by
    rw [walkA_succ]
    unfold addA
    rw [if_neg (by rw [← hi, ← hO.al.length]; exact hlt)]
    exact hO.al.snoc h4
  have hnm : ch (stN d (os.getD k 0) c) ∉ os := fun hm => hlt (idxA_lt.2 ⟨_, hm, Alike.refl _ _ _⟩)
  refine ⟨⟨hadd, hcan, ?_⟩, ?_⟩
  · rw [List.nodup_append]
    exact ⟨hO.nd, by simp, fun a ha b hb => by simp at hb; subst hb; exact fun e => hnm (e ▸ ha)⟩
  · rw [place_idx h hcan h2 h3, idxA_new hlt, if_pos (Alike.refl _ _ _), if_pos (by simp), rowA_before, ← hi]
    have := idxA_le (stN d) (anN d) os (ch (stN d (os.getD k 0) c))
    omega
theorem OsI.row {d : DfaD} {l : List Nat} {ch : Nat → Nat} {os : List Nat} {k c : Nat} (hO : OsI d l ch os k c) (hc : c = 256) : OsI d l ch os (k + 1) 0 := by
  subst hc
  exact ⟨by rw [walkA_row]; exact hO.al, hO.can, hO.nd⟩
theorem OsI.len {d : DfaD} {l : List Nat} {ch : Nat → Nat} {os : List Nat} {k c : Nat} (hO : OsI d l ch os k c) (hR : RchD d l) : os.length ≤ d.tag.length :=
  nodup_le _ os hO.nd fun x hx => hR.lt x (hO.can x hx).1
end Go.Proofs.Ytgbdlgogccgciaa
