import Derived.Test.YtgbdlgogccgciaaRowRun
import Derived.Test.YtgbdlgogccgciaaGen
namespace Go.Proofs.Ytgbdlgogccgciaa
open Go.RowKit
attribute [local go_sem ↓] Go.wp_at_zero Go.wp_at_succ

theorem DfaAt.cells {lo : Nat} {w : World} {cv nv tv ev : Value} {d : DfaD} (hs : DfaAt lo w cv nv tv ev d) (hf : DfaFine d) {s : Int} {c : Nat} (h0 : 0 ≤ s) (h1 : s < d.tag.length) (hc : c < 256) :
    ∃ (cb co cc nb no nc : Nat), cv = .slice (some ⟨cb, co, none⟩) d.classes.length cc ∧ nv = .slice (some ⟨nb, no, none⟩) d.next.length nc ∧ d.next.length ≤ 9223372036854775807 ∧ cb < w.heap.size ∧ nb < w.heap.size ∧
      w.cell? ⟨cb, co + c, none⟩ = some (.int .i64 (clsAt d c)) ∧ w.cell? ⟨nb, no + (s * d.width + clsAt d c).toNat, none⟩ = some (.int .i64 (stepF d s c)) := by
  obtain ⟨⟨ca, cc, rfl, cm, cx⟩, ⟨na, nc, rfl, nm, nx⟩, -, -⟩ := hs
  obtain ⟨a, b, e, f, g⟩ := hf.idx h0 h1 hc
  obtain ⟨cb, co, rfl, _, cl, cq⟩ := cx (by rw [hf.cl]; omega)
  obtain ⟨nb, no, rfl, _, nl, nq⟩ := nx (by omega)
  exact ⟨cb, co, cc, nb, no, nc, rfl, rfl, nm, cl, nl, cq c (by rw [hf.cl]; omega), nq _ (by omega)⟩

set_option maxRecDepth 100000 in
set_option maxHeartbeats 1000000 in
theorem l2Go_ok {lo : Nat} (cv nv tv ev : Value) (d : DfaD) (s : Int) (c : Nat) (w : World) (hs : DfaAt lo w cv nv tv ev d) (hf : DfaFine d) (h0 : 0 ≤ s) (h1 : s < d.tag.length) (hc : c < 256) :
    Calls Try.prog 15 #[.agg #[cv, .int .i64 d.width, nv, tv, ev], .int .i64 s, .int .i64 c] w fun e w' => e = .returned (.int .i64 (stepF d s c)) ∧ Below w.heap.size w w' := by
  obtain ⟨cb, co, cc, nb, no, nc, rfl, rfl, nm, cl, nl, c0, c1⟩ := hs.cells hf h0 h1 hc
  obtain ⟨a, b, e, f, g⟩ := hf.idx h0 h1 hc
  have hcl := hf.cl
  rw [hcl]
  have w1 := hf.w1; have w2 := hf.w2
  have hn2 := hf.n2
  clear hs
  generalize clsAt d c = x at *
  generalize stepF d s c = y at *
  have hcc : (c : Int) < 256 := by omega
  have hx0 : 0 ≤ s * d.width + x := by omega
  have hx1 : s * d.width + x ≤ 2000000 := by omega
  go_enter Try.func15, Try.ntmps15
  go_wp2
  go_quiet (fail)
  go_wp2
  go_ret
  exact ⟨rfl, below_drewN ((Below.refl _ _).alloc (Nat.le_refl _) _) _⟩

set_option maxRecDepth 100000 in
set_option maxHeartbeats 1000000 in
theorem step_ok {lo : Nat} (cv nv tv ev : Value) (d : DfaD) (s : Int) (c : Nat) (w : World) (hs : DfaAt lo w cv nv tv ev d) (hf : DfaFine d) (h0 : 0 ≤ s) (h1 : s < d.tag.length) (hc : c < 256) :
    Calls Try.prog 31 #[.agg #[cv, .int .i64 d.width, nv, tv, ev], .int .i64 s, .int .i64 c] w fun e w' => e = .returned (.int .i64 (stepF d s c)) ∧ Below w.heap.size w w' := by
  obtain ⟨cb, co, cc, nb, no, nc, rfl, rfl, nm, cl, nl, c0, c1⟩ := hs.cells hf h0 h1 hc
  obtain ⟨a, b, e, f, g⟩ := hf.idx h0 h1 hc
  have hcl := hf.cl
  rw [hcl]
  have w1 := hf.w1; have w2 := hf.w2
  have hn2 := hf.n2
  clear hs
  generalize clsAt d c = x at *
  generalize stepF d s c = y at *
  have hcc : (c : Int) < 256 := by omega
  have hx0 : 0 ≤ s * d.width + x := by omega
  have hx1 : s * d.width + x ≤ 2000000 := by omega
  go_enter Try.func31, Try.ntmps31
  go_wp2
  go_quiet (fail)
  go_wp2
  go_ret
  exact ⟨rfl, below_drewN ((Below.refl _ _).alloc (Nat.le_refl _) _) _⟩

theorem wrap64_small {n : Int} (h0 : 0 ≤ n) (h1 : n ≤ 1000000000000000000) : IntKind.i64.wrap n = n := by
  simp [IntKind.wrap, IntKind.bits, IntKind.signed]; omega
theorem l2Go_at {lo : Nat} (cv nv tv ev : Value) (d : DfaD) (s ci : Int) (c : Nat) (w : World) (hci : ci = c) (hs : DfaAt lo w cv nv tv ev d) (hf : DfaFine d) (h0 : 0 ≤ s) (h1 : s < d.tag.length) (hc : c < 256) :
    Calls Try.prog 15 #[.agg #[cv, .int .i64 d.width, nv, tv, ev], .int .i64 s, .int .i64 ci] w fun e w' => e = .returned (.int .i64 (stepF d s c)) ∧ Below w.heap.size w w' := by
  subst hci; exact l2Go_ok cv nv tv ev d s c w hs hf h0 h1 hc
theorem step_at {lo : Nat} (cv nv tv ev : Value) (d : DfaD) (s ci : Int) (c : Nat) (w : World) (hci : ci = c) (hs : DfaAt lo w cv nv tv ev d) (hf : DfaFine d) (h0 : 0 ≤ s) (h1 : s < d.tag.length) (hc : c < 256) :
    Calls Try.prog 31 #[.agg #[cv, .int .i64 d.width, nv, tv, ev], .int .i64 s, .int .i64 ci] w fun e w' => e = .returned (.int .i64 (stepF d s c)) ∧ Below w.heap.size w w' := by
  subst hci; exact step_ok cv nv tv ev d s c w hs hf h0 h1 hc
end Go.Proofs.Ytgbdlgogccgciaa
namespace Go.Proofs.Ytgbdlgogccgciaa

/- THE MINIMAL AUTOMATON (plain mathematics): states and bytes are numbers; st is where a byte leads, an what a state answers. -/
def runN (st : Nat → Nat → Nat) (s : Nat) (l : List Nat) : Nat := l.foldl st s
/-- No text tells the two apart. -/
def Alike (st : Nat → Nat → Nat) (an : Nat → Int × Int) (s t : Nat) : Prop := ∀ l : List Nat, (∀ c ∈ l, c < 256) → an (runN st s l) = an (runN st t l)
noncomputable instance alikeDec (st : Nat → Nat → Nat) (an : Nat → Int × Int) (s t : Nat) : Decidable (Alike st an s t) := Classical.propDecidable _
theorem Alike.refl (st : Nat → Nat → Nat) (an : Nat → Int × Int) (s : Nat) : Alike st an s s := fun _ _ => rfl
theorem Alike.symm {st : Nat → Nat → Nat} {an : Nat → Int × Int} {s t : Nat} (h : Alike st an s t) : Alike st an t s := fun l hl => (h l hl).symm
theorem Alike.trans {st : Nat → Nat → Nat} {an : Nat → Int × Int} {s t u : Nat} (h : Alike st an s t) (k : Alike st an t u) : Alike st an s u := fun l hl => (h l hl).trans (k l hl)
theorem Alike.an {st : Nat → Nat → Nat} {an : Nat → Int × Int} {s t : Nat} (h : Alike st an s t) : an s = an t := h [] (by simp)
theorem Alike.step {st : Nat → Nat → Nat} {an : Nat → Int × Int} {s t : Nat} (h : Alike st an s t) {c : Nat} (hc : c < 256) : Alike st an (st s c) (st t c) := fun l hl => h (c :: l) (by
  intro x hx
  rcases List.mem_cons.1 hx with rfl | hx
  · exact hc
  · exact hl x hx)
theorem alike_of {st : Nat → Nat → Nat} {an : Nat → Int × Int} (R : Nat → Nat → Prop) (h1 : ∀ s t, R s t → an s = an t) (h2 : ∀ s t c, R s t → c < 256 → R (st s c) (st t c)) {s t : Nat} (h : R s t) : Alike st an s t := by
  intro l
  induction l generalizing s t with
  | nil => intro _; exact h1 s t h
  | cons c l ih => intro hl; exact ih (h2 s t c h (hl c (by simp))) (fun x hx => hl x (by simp [hx]))

/-- The place of a state among others, up to being alike. -/
noncomputable def idxA (st : Nat → Nat → Nat) (an : Nat → Int × Int) (os : List Nat) (x : Nat) : Nat :=
  os.findIdx fun o => decide (Alike st an o x)
theorem idxA_le (st : Nat → Nat → Nat) (an : Nat → Int × Int) (os : List Nat) (x : Nat) : idxA st an os x ≤ os.length := List.findIdx_le_length
theorem idxA_lt {st : Nat → Nat → Nat} {an : Nat → Int × Int} {os : List Nat} {x : Nat} : idxA st an os x < os.length ↔ ∃ o ∈ os, Alike st an o x := by
  unfold idxA
  rw [List.findIdx_lt_length]
  constructor
  · rintro ⟨o, h1, h2⟩; exact ⟨o, h1, of_decide_eq_true h2⟩
  · rintro ⟨o, h1, h2⟩; exact ⟨o, h1, decide_eq_true h2⟩
theorem idxA_at {st : Nat → Nat → Nat} {an : Nat → Int × Int} {os : List Nat} {x : Nat} (h : idxA st an os x < os.length) : Alike st an (os[idxA st an os x]'h) x :=
  of_decide_eq_true (List.findIdx_getElem (p := fun o => decide (Alike st an o x)) (w := h))
theorem idxA_snoc {st : Nat → Nat → Nat} {an : Nat → Int × Int} {os : List Nat} {x y : Nat} (h : idxA st an os x < os.length) : idxA st an (os ++ [y]) x = idxA st an os x := by
  unfold idxA at h ⊢
  rw [List.findIdx_append, if_pos h]
theorem idxA_new {st : Nat → Nat → Nat} {an : Nat → Int × Int} {os : List Nat} {x y : Nat} (h : ¬idxA st an os x < os.length) : idxA st an (os ++ [y]) x = if Alike st an y x then os.length else os.length + 1 := by
  have hl := idxA_le st an os x
  unfold idxA at h hl ⊢
  rw [List.findIdx_append, if_neg h, List.findIdx_singleton]
  by_cases e : Alike st an y x
  · rw [if_pos e, if_pos (decide_eq_true e)]; omega
  · rw [if_neg e, if_neg (by simpa using e)]; omega
/-- Two lists whose states are alike, one by one. -/
inductive Alikes (st : Nat → Nat → Nat) (an : Nat → Int × Int) : List Nat → List Nat → Prop
  | nil : Alikes st an [] []
  | cons {s t : Nat} {l m : List Nat} : Alike st an s t → Alikes st an l m → Alikes st an (s :: l) (t :: m)
theorem Alikes.length {st : Nat → Nat → Nat} {an : Nat → Int × Int} {l m : List Nat} (h : Alikes st an l m) : l.length = m.length := by
  induction h with
  | nil => rfl
  | cons _ _ ih => simp [ih]
theorem Alikes.snoc {st : Nat → Nat → Nat} {an : Nat → Int × Int} {l m : List Nat} (h : Alikes st an l m) {s t : Nat} (hs : Alike st an s t) : Alikes st an (l ++ [s]) (m ++ [t]) := by
  induction h with
  | nil => exact .cons hs .nil
  | cons k _ ih => exact .cons k ih
theorem Alikes.at {st : Nat → Nat → Nat} {an : Nat → Int × Int} {l m : List Nat} (h : Alikes st an l m) : ∀ k, k < l.length → Alike st an (l.getD k 0) (m.getD k 0) := by
  induction h with
  | nil => intro k hk; exact absurd hk (Nat.not_lt_zero _)
  | cons e _ ih =>
    intro k hk
    cases k with
    | zero => exact e
    | succ k => exact ih k (by simpa using hk)
theorem Alikes.idx {st : Nat → Nat → Nat} {an : Nat → Int × Int} {l m : List Nat} (h : Alikes st an l m) {x y : Nat} (hxy : Alike st an x y) : idxA st an l x = idxA st an m y := by
  induction h with
  | nil => rfl
  | @cons s t l m e _ ih =>
    unfold idxA at ih ⊢
    rw [List.findIdx_cons, List.findIdx_cons, ih]
    have : decide (Alike st an s x) = decide (Alike st an t y) := by
      rw [decide_eq_decide]
      exact ⟨fun k => e.symm.trans (k.trans hxy), fun k => e.trans (k.trans hxy.symm)⟩
    rw [this]

/-- A state is added where none is alike. -/
noncomputable def addA (st : Nat → Nat → Nat) (an : Nat → Int × Int) (os : List Nat) (x : Nat) : List Nat := if idxA st an os x < os.length then os else os ++ [x]
/-- The walk, breadth first: what has been met before byte c of the k-th. -/
noncomputable def walkA (st : Nat → Nat → Nat) (an : Nat → Int × Int) : Nat → Nat → List Nat
  | 0, 0 => [0]
  | k + 1, 0 => walkA st an k 256
  | k, c + 1 => addA st an (walkA st an k c) (st ((walkA st an k c).getD k 0) c)
theorem walkA_succ (st : Nat → Nat → Nat) (an : Nat → Int × Int) (k c : Nat) : walkA st an k (c + 1) = addA st an (walkA st an k c) (st ((walkA st an k c).getD k 0) c) := by rw [walkA]
theorem walkA_row (st : Nat → Nat → Nat) (an : Nat → Int × Int) (k : Nat) : walkA st an (k + 1) 0 = walkA st an k 256 := by rw [walkA]
theorem walkA_zero (st : Nat → Nat → Nat) (an : Nat → Int × Int) : walkA st an 0 0 = [0] := by rw [walkA]
theorem addA_pre (st : Nat → Nat → Nat) (an : Nat → Int × Int) (os : List Nat) (x : Nat) : ∃ t, addA st an os x = os ++ t := by
  unfold addA
  split
  · exact ⟨[], by simp⟩
  · exact ⟨[x], rfl⟩
theorem addA_alikes {st : Nat → Nat → Nat} {an : Nat → Int × Int} {l m : List Nat} (h : Alikes st an l m) {x y : Nat} (hxy : Alike st an x y) : Alikes st an (addA st an l x) (addA st an m y) := by
  unfold addA
  rw [h.idx hxy, h.length]
  split
  · exact h
  · exact h.snoc hxy
theorem addA_idx (st : Nat → Nat → Nat) (an : Nat → Int × Int) (os : List Nat) (x : Nat) : idxA st an (addA st an os x) x = idxA st an os x ∧ idxA st an (addA st an os x) x < (addA st an os x).length := by
  unfold addA
  split
  · rename_i h; exact ⟨rfl, h⟩
  · rename_i h
    have := idxA_le st an os x
    rw [idxA_new h, if_pos (Alike.refl _ _ _)]
    exact ⟨by omega, by simp⟩
theorem idxA_pre {st : Nat → Nat → Nat} {an : Nat → Int × Int} {os t : List Nat} {x : Nat} (h : idxA st an os x < os.length) : idxA st an (os ++ t) x = idxA st an os x := by
  unfold idxA at h ⊢
  rw [List.findIdx_append, if_pos h]
/-- What is met stays met, at its place. -/
theorem walkA_row_pre (st : Nat → Nat → Nat) (an : Nat → Int × Int) (k : Nat) : ∀ c d, c ≤ d → ∃ t, walkA st an k d = walkA st an k c ++ t
  | c, 0, h => ⟨[], by rw [show c = 0 by omega]; simp⟩
  | c, d + 1, h => by
    by_cases e : c = d + 1
    · subst e; exact ⟨[], by simp⟩
    · obtain ⟨t, ht⟩ := walkA_row_pre st an k c d (by omega)
      obtain ⟨t2, ht2⟩ := addA_pre st an (walkA st an k d) (st ((walkA st an k d).getD k 0) d)
      exact ⟨t ++ t2, by rw [walkA_succ, ht2, ht, List.append_assoc]⟩
theorem walkA_pre (st : Nat → Nat → Nat) (an : Nat → Int × Int) : ∀ j k, j ≤ k → ∃ t, walkA st an k 0 = walkA st an j 0 ++ t
  | j, 0, h => ⟨[], by rw [show j = 0 by omega]; simp⟩
  | j, k + 1, h => by
    by_cases e : j = k + 1
    · subst e; exact ⟨[], by simp⟩
    · obtain ⟨t, ht⟩ := walkA_pre st an j k (by omega)
      obtain ⟨t2, ht2⟩ := walkA_row_pre st an k 0 256 (by omega)
      exact ⟨t ++ t2, by rw [walkA_row, ht2, ht, List.append_assoc]⟩
end Go.Proofs.Ytgbdlgogccgciaa
