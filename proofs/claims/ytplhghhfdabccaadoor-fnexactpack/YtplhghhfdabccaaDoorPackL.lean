import Derived.Test.YtplhghhfdabccaaDoorPackN
import Derived.Test.YtplhghhfdabccaaDoorPackR
namespace Go.Proofs.YtplhghhfdabccaaDoor
open Go.RowKit

/- THE LAYOUT UNDER WAY: its box p, the words gT, two rows. -/
def lyA (gT : Nat) (v : Nat → Value) : Array Value := #[.slice (some ⟨gT, 0, none⟩) 943 943, v 0, v 1]
theorem lyA_set (gT : Nat) (v : Nat → Value) (i : Nat) (hi : i < 2) (u : Value) : (lyA gT v).setIfInBounds (i + 1) u = lyA gT (upd v i u) := by
  match i, hi with
  | 0, _ => rfl
  | 1, _ => rfl
theorem row_ly {w : World} {p gT : Nat} {v : Nat → Value} {t : TypeId} (h : w.heap[p]? = some (.cells (lyA gT v) t (0, 0))) : w.cell? ⟨p, 0, none⟩ = some (.slice (some ⟨gT, 0, none⟩) 943 943) ∧ w.cell? ⟨p, 1, none⟩ = some (v 0) ∧ w.cell? ⟨p, 2, none⟩ = some (v 1) :=
  ⟨row_cells h 0, row_cells h 1, row_cells h 2⟩
structure Ly (B p gT : Nat) (T : Nat → Nat) (v : Nat → Value) (l : Nat → List Int) (W : World) : Prop where
  bp : B < p
  bT : B < gT
  ne : p ≠ gT
  box : W.heap[p]? = some (.cells (lyA gT v) 50 (0, 0))
  words : W.heap[gT]? = some (.cells (wdRow 943 T) 56 (0, 0))
  fam : Fam B 2 W v l
  far : ∀ i, i < 2 → ∀ b, (v i).ownBlock = some b → b ≠ p ∧ b ≠ gT
  tl : ∀ i, T i < 18446744073709551616
/-- What of the world w is as it was. -/
structure LyK (w : World) (p gT : Nat) (v0 v : Nat → Value) (W : World) : Prop where
  os : W.os = w.os
  tape : W.tape = w.tape
  output : W.output = w.output
  size : w.heap.size ≤ W.heap.size
  rest : ∀ k, k < w.heap.size → k ≠ p → k ≠ gT → (∀ i, i < 2 → (v0 i).ownBlock ≠ some k) → W.heap[k]? = w.heap[k]?
  new : ∀ i, i < 2 → ∀ b, (v i).ownBlock = some b → (v0 i).ownBlock = some b ∨ w.heap.size ≤ b
theorem LyK.trans {w W V : World} {p gT : Nat} {v0 v1 v2 : Nat → Value} (h : LyK w p gT v0 v1 W) (k : LyK W p gT v1 v2 V) : LyK w p gT v0 v2 V := by
  have hz := h.size
  refine ⟨k.os.trans h.os, k.tape.trans h.tape, k.output.trans h.output, Nat.le_trans hz k.size, fun j hj h1 h2 h3 => (k.rest j (by omega) h1 h2 fun i hi hc => ?_).trans (h.rest j hj h1 h2 h3), fun i hi b hb => ?_⟩
  · rcases h.new i hi j hc with h4 | h4
    · exact h3 i hi h4
    · omega
  · rcases k.new i hi b hb with h4 | h4
    · exact h.new i hi b h4
    · exact .inr (by omega)
theorem LyK.of_below {w W : World} {p gT : Nat} {v : Nat → Value} (h : Below w.heap.size w W) : LyK w p gT v v W :=
  ⟨h.os, h.tape, h.output, h.size, fun k hk _ _ _ => h.block k hk, fun _ _ _ hb => .inl hb⟩
theorem Ly.grow {B p gT : Nat} {T : Nat → Nat} {v : Nat → Value} {l : Nat → List Int} {W W' : World} (h : Ly B p gT T v l W) (hb : Below W.heap.size W W') : Ly B p gT T v l W' :=
  ⟨h.bp, h.bT, h.ne, row_below h.box hb, row_below h.words hb, h.fam.below hb, h.far, h.tl⟩
/-- One more in row i, up to the store. -/
theorem Ly.grown {B p gT : Nat} {T : Nat → Nat} {v : Nat → Value} {l : Nat → List Int} {W W1 W2 : World} (h : Ly B p gT T v l W) (hb : Below W.heap.size W W1) {i : Nat} (hi : i < 2) {g cap : Nat} {y : Int}
    (own : W2.ownsRow (B + 1) 3 1 (.slice (some ⟨g, 0, none⟩) ((l i).length + 1) cap) ((l i).length + 1) ((l i).map intV ++ [.int .i64 y])) (grow : W1.grownBy W2 (v i).ownBlock) (at' : (v i).ownBlock = some g ∨ W1.heap.size ≤ g) :
    W2.heap[p]? = some (.cells (lyA gT v) 50 (0, 0)) ∧ Ly B p gT T (upd v i (.slice (some ⟨g, 0, none⟩) ((l i).length + 1) cap)) (updL l i (l i ++ [y])) (W2.setCell ⟨p, i + 1, none⟩ (.slice (some ⟨g, 0, none⟩) ((l i).length + 1) cap)) ∧
      LyK W p gT v (upd v i (.slice (some ⟨g, 0, none⟩) ((l i).length + 1) cap)) (W2.setCell ⟨p, i + 1, none⟩ (.slice (some ⟨g, 0, none⟩) ((l i).length + 1) cap)) := by
  have hz := hb.size
  have hg2 : W1.heap.size ≤ W2.heap.size := grow.size
  have hp : p < W.heap.size := row_lt h.box
  have hT : gT < W.heap.size := row_lt h.words
  have np : some p ≠ (v i).ownBlock := fun hc => (h.far i hi p hc.symm).1 rfl
  have nT : some gT ≠ (v i).ownBlock := fun hc => (h.far i hi gT hc.symm).2 rfl
  have b2 : W2.heap[p]? = some (.cells (lyA gT v) 50 (0, 0)) := (grow.block p (by omega) np).trans (row_below h.box hb)
  have t2 : W2.heap[gT]? = some (.cells (wdRow 943 T) 56 (0, 0)) := (grow.block gT (by omega) nT).trans (row_below h.words hb)
  have hgp : g ≠ p ∧ g ≠ gT := by
    rcases at' with h1 | h1
    · exact h.far i hi g h1
    · omega
  have hfar : ∀ j, j < 2 → ∀ b, (upd v i (.slice (some ⟨g, 0, none⟩) ((l i).length + 1) cap) j).ownBlock = some b → b ≠ p ∧ b ≠ gT := fun j hj b hbb => by
    by_cases e : j = i
    · subst e
      rw [upd_same] at hbb
      simp [Value.ownBlock] at hbb
      subst hbb
      exact hgp
    · rw [upd_ne _ _ e] at hbb
      exact h.far j hj b hbb
  have fam2 := Fam.append (h.fam.below hb) hi own grow at'
  refine ⟨b2, ⟨h.bp, h.bT, h.ne, ?_, ?_, ?_, hfar, h.tl⟩, ⟨?_, ?_, ?_, ?_, ?_, ?_⟩⟩
  · rw [← lyA_set gT v i hi]
    exact heap_setCell_same _ _ _ _ _ _ b2
  · rw [heap_setCell_other _ _ _ _ (by simpa using h.ne.symm)]; exact t2
  · refine ⟨fun j hj => owns_keep (fam2.own j hj) fun b hbb => heap_setCell_other _ _ _ _ (by simpa using (hfar j hj b hbb).1), fam2.apart⟩
  · exact grow.os.trans hb.os
  · exact grow.tape.trans hb.tape
  · exact grow.output.trans hb.output
  · have : (W2.setCell ⟨p, i + 1, none⟩ (.slice (some ⟨g, 0, none⟩) ((l i).length + 1) cap)).heap.size = W2.heap.size := by simp [World.setCell]
    omega
  · intro k hk h1 h2 h3
    rw [heap_setCell_other _ _ _ _ (by simpa using h1), grow.block k (by omega) (fun hc => h3 i hi hc.symm), hb.block k hk]
  · intro j hj b hbb
    by_cases e : j = i
    · subst e
      rw [upd_same] at hbb
      simp [Value.ownBlock] at hbb
      subst hbb
      rcases at' with h1 | h1
      · exact .inl h1
      · exact .inr (by omega)
    · rw [upd_ne _ _ e] at hbb
      exact .inl hbb
/-- 'l.F = append(l.F, x)', F the layout's row i: up to the store. -/
theorem wpList_ly {ops : Array Oper} {rest : List Oper} {o : Oper} {a : Act} {Q : Exit → Act → World → Prop} {B p gT : Nat} {T : Nat → Nat} {v : Nat → Value} {l : Nat → List Int} {W : World} (S : Ly B p gT T v l W) (H : Nat) (hH : W.heap.size = H) (hgd : o.guard = none) (s x : Operand)
    (ho : o.op = .call { callee := .builtin .append, args := #[s, x], argTypes := #[22, 22] }) (i : Nat) (hi : i < 2) (off : Nat) (hoff : i + 1 = off) (xs : List Int) (hxs : l i = xs) (n : Nat) (hn : xs.length = n) (hs : a.eval s = v i) (y : Int) (hx : a.eval x = .slice (some ⟨H, 0, none⟩) 1 1) (hl : n ≤ 2000000)
    (h : ∀ g cap W', W'.heap[p]? = some (.cells (lyA gT v) 50 (0, 0)) → Ly B p gT T (upd v i (.slice (some ⟨g, 0, none⟩) (n + 1) cap)) (updL l i (xs ++ [y])) (W'.setCell ⟨p, off, none⟩ (.slice (some ⟨g, 0, none⟩) (n + 1) cap)) → LyK W p gT v (upd v i (.slice (some ⟨g, 0, none⟩) (n + 1) cap)) (W'.setCell ⟨p, off, none⟩ (.slice (some ⟨g, 0, none⟩) (n + 1) cap)) → wpList Tryd.prog ops Q rest (a.put o.dst (.slice (some ⟨g, 0, none⟩) (n + 1) cap)) W') :
    wpList Tryd.prog ops Q (o :: rest) a (W.alloc (.cells #[.int .i64 y] 3)) := by
  subst hH; subst hn; subst hxs; subst hoff
  obtain ⟨i0, hi0, hz0, hz1, hz2⟩ := info_parts Tryd.infoInt
  have hb : Below W.heap.size W (W.alloc (.cells #[.int .i64 y] 3)) := (Below.refl _ _).alloc (Nat.le_refl _) _
  have own : (W.alloc (.cells #[.int .i64 y] 3)).ownsRow (B + 1) 3 1 (v i) (l i).length ((l i).map intV) := (S.fam.below hb).own i hi
  have hpl : p < W.heap.size := row_lt S.box
  have hBp := S.bp
  refine wpList_append_lies _ hgd s x 22 ho (B + 1) 3 i0 _ 1 8 Tryd.underlying22 hi0 hz0 hz1 hz2 rfl (by omega) (v i) (l i).length ((l i).map intV) hs own ⟨W.heap.size, 0, none⟩ 1 1 [.int .i64 y] hx rfl (one_new (heap_alloc_new _ _)) (by intro u hu; simp at hu; subst hu; rfl) (by omega) (by unfold maxLen; omega) (by omega) (by simp; omega) (W.heap.size + 1) (by simp) ?_
  intro g cap W' own' grow' at' _
  obtain ⟨G1, G2, G3⟩ := S.grown hb (i := i) hi (y := y) own' grow' (at'.imp id (fun h => by simp; omega))
  exact h g cap W' G1 G2 G3
/-- What a row's value looks like, and its cells. -/
theorem Ly.at {B p gT : Nat} {T : Nat → Nat} {v : Nat → Value} {l : Nat → List Int} {W : World} (S : Ly B p gT T v l W) {i : Nat} (hi : i < 2) {xs : List Int} (hx : l i = xs) (h0 : 0 < xs.length) :
    ∃ g cap, v i = .slice (some ⟨g, 0, none⟩) xs.length cap ∧ (∀ j, j < xs.length → W.cell? ⟨g, j, none⟩ = some (.int .i64 (xs.getD j 0))) ∧ (∀ j, W.frozen? ⟨g, j, none⟩ = false) := by
  subst hx
  have own := S.fam.own i hi
  obtain ⟨g, cap, hv, hb, _⟩ := World.ownsRow.form own h0
  have own' : W.ownsRow (B + 1) 3 1 (.slice (some ⟨g, 0, none⟩) (l i).length cap) (l i).length ((l i).map intV) := by
    have h := own
    unfold Owns at h
    rw [hv] at h
    exact h
  refine ⟨g, cap, hv, fun j hj => ?_, fun j => own'.frozenAt j⟩
  rw [own'.cellAt j (by omega)]
  simp [intV, List.getD, hj]
/-- A store into a row. -/
theorem Ly.put {B p gT : Nat} {T : Nat → Nat} {v : Nat → Value} {l : Nat → List Int} {W : World} (S : Ly B p gT T v l W) {i : Nat} (hi : i < 2) {xs : List Int} (hx : l i = xs) {g cap : Nat} (hv : v i = .slice (some ⟨g, 0, none⟩) xs.length cap) (idx : Nat) (x : Int) :
    Ly B p gT T v (updL l i (xs.set idx x)) (W.setCell ⟨g, idx, none⟩ (.int .i64 x)) ∧ LyK W p gT v v (W.setCell ⟨g, idx, none⟩ (.int .i64 x)) := by
  subst hx
  have own := S.fam.own i hi
  have own' : W.ownsRow (B + 1) 3 1 (.slice (some ⟨g, 0, none⟩) (l i).length cap) (l i).length ((l i).map intV) := by
    have h := own
    unfold Owns at h
    rw [hv] at h
    exact h
  have hgb : (v i).ownBlock = some g := by rw [hv]; rfl
  have hf := S.far i hi g hgb
  have st := (own'.stored idx (.int .i64 x)).1
  refine ⟨⟨S.bp, S.bT, S.ne, ?_, ?_, ⟨fun j hj => ?_, S.fam.apart⟩, S.far, S.tl⟩, ⟨rfl, rfl, rfl, by simp [World.setCell], fun k hk h1 h2 h3 => heap_setCell_other _ _ _ _ (fun hc => h3 i hi (by rw [hgb]; exact congrArg some hc.symm)), fun _ _ _ hb => .inl hb⟩⟩
  · rw [heap_setCell_other _ _ _ _ (fun hc => hf.1 hc.symm)]; exact S.box
  · rw [heap_setCell_other _ _ _ _ (fun hc => hf.2 hc.symm)]; exact S.words
  · by_cases e : j = i
    · subst e
      rw [updL_same]
      unfold Owns
      rw [List.length_set, hv, List.map_set]
      exact st
    · rw [updL_ne _ _ e]
      refine owns_keep (S.fam.own j hj) fun b hb => heap_setCell_other _ _ _ _ (fun hc => ?_)
      exact S.fam.apart j i hj hi e b hb (by rw [hgb]; exact congrArg some (show g = b from hc.symm))
/-- A slot taken. -/
theorem Ly.take {B p gT : Nat} {T : Nat → Nat} {v : Nat → Value} {l : Nat → List Int} {W W' : World} (S : Ly B p gT T v l W) (q : Nat) (h1 : W'.heap[gT]? = some (.cells (wdRow 943 (addT T q)) 56 (0, 0))) (h2 : ∀ k, k ≠ gT → W'.heap[k]? = W.heap[k]?) (h3 : W'.os = W.os) (h4 : W'.tape = W.tape) (h5 : W'.output = W.output) (h6 : W'.heap.size = W.heap.size) :
    Ly B p gT (addT T q) v l W' ∧ LyK W p gT v v W' :=
  ⟨⟨S.bp, S.bT, S.ne, (h2 p S.ne).trans S.box, h1, ⟨fun j hj => owns_keep (S.fam.own j hj) fun b hb => h2 b (S.far j hj b hb).2, S.fam.apart⟩, S.far, addT_lt T S.tl q⟩, ⟨h3, h4, h5, by omega, fun k _ _ hk _ => h2 k hk, fun _ _ _ hb => .inl hb⟩⟩

/- WHO HAS A SLOT. -/
theorem free_snoc (ck : List Int) (s : Nat) : freeAt (ck ++ [-1]) s = freeAt ck s := by
  unfold freeAt
  rw [List.length_append, List.length_singleton]
  by_cases h : s < ck.length
  · have h1 : ¬ck.length + 1 ≤ s := by omega
    have h2 : ¬ck.length ≤ s := by omega
    simp [h1, h2, List.getD, List.getElem?_append_left h]
  · by_cases e : s = ck.length
    · subst e
      simp [List.getD]
    · have h1 : ck.length + 1 ≤ s := by omega
      have h2 : ck.length ≤ s := by omega
      simp [h1, h2]
theorem free_long (ck : List Int) : ∀ (m n : Nat), m = n - ck.length → ∀ s, freeAt (longL (-1) n ck) s = freeAt ck s
  | 0, n, h, s => by rw [longL_self (by omega)]
  | m + 1, n, h, s => by
    have e : n = (n - 1) + 1 := by omega
    rw [e, longL_step (by omega), free_snoc]
    exact free_long ck m (n - 1) (by omega) s
theorem free_set (ck : List Int) (i : Nat) (hi : i < ck.length) (x : Int) (hx : 0 ≤ x) (s : Nat) : freeAt (ck.set i x) s = (freeAt ck s && !decide (s = i)) := by
  unfold freeAt
  rw [List.length_set]
  by_cases e : s = i
  · subst e
    have h1 : ¬ck.length ≤ s := by omega
    have h2 : ¬x = -1 := by omega
    simp [h1, h2, List.getD, hi]
  · simp [e, List.getD, List.getElem?_set_ne (fun h => e h.symm)]
theorem bits_set {T : Nat → Nat} {ck : List Int} (h : ∀ s, bitAt T s = !freeAt ck s) (i : Nat) (hi : i < ck.length) (x : Int) (hx : 0 ≤ x) : ∀ s, bitAt (addT T i) s = !freeAt (ck.set i x) s := fun s => by
  rw [addT_bit, free_set ck i hi x hx, h s]
  cases freeAt ck s <;> simp
theorem fits_bits {T : Nat → Nat} {ck : List Int} (h : ∀ s, bitAt T s = !freeAt ck s) (odd : List Nat) (j : Nat) : fitsT T odd j = fitsAt ck odd j := by
  unfold fitsT fitsAt
  congr 1
  funext c
  rw [h]
  simp
theorem setAll_snoc (k : Nat) (f : Nat → Int) (a : List Nat) (c : Nat) (l : List Int) : setAll l k f (a ++ [c]) = (setAll l k f a).set (k + c) (f c) := by
  rw [setAll_append]; rfl
theorem oddF_last {row : List Int} {dv : Int} {k : Nat} {a : List Nat} {c : Nat} (h : oddF row dv k = a ++ [c]) : ∀ x ∈ oddF row dv k, x ≤ c := by
  have hs : (oddF row dv k).Pairwise (· < ·) := List.Pairwise.filter _ List.pairwise_lt_range
  rw [h] at hs ⊢
  intro x hx
  rcases List.mem_append.1 hx with h1 | h1
  · have := (List.pairwise_append.1 hs).2.2 x h1 c (by simp)
    omega
  · rw [List.mem_singleton.1 h1]; exact Nat.le_refl _
end Go.Proofs.YtplhghhfdabccaaDoor
