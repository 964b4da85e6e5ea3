import Derived.Test.YtgbdlgogccgciaaMinG
namespace Go.Proofs.Ytgbdlgogccgciaa
open Go.RowKit

theorem grown_putD (W : World) (b j n : Nat) (v : Value) : W.grownBy ((W.drewN n).setCell ⟨b, j, none⟩ v) (some b) :=
  ⟨rfl, rfl, rfl, (grown_putM W b j v).size, (grown_putM W b j v).block⟩
/-- One row more. -/
theorem MatI.more {B : Nat} {w w5 : World} {n x g cap gx : Nat} {v' : Value} {gr : Nat → Nat} {m : Nat → Nat → Bool} (h : MatI B w n x (.slice (some ⟨g, 0, none⟩) x cap) gr m) (hr : w.heap[gx]? = some (.cells (blRow n (m x)) 4 (0, 0))) (hB : B ≤ gx) (hf : ∀ j, j < x → gr j ≠ gx)
    (hgrow : w.grownBy w5 (some g)) (hown : w5.ownsRow B 37 1 v' (x + 1) (slcB gr n x ++ [.slice (some ⟨gx, 0, none⟩) n n])) : MatI B w5 n (x + 1) v' (fun j => if j = x then gx else gr j) m := by
  have hg : ∃ cur : Array Value, w.heap[g]? = some (.cells cur 37 (0, 0)) := by
    rcases h.out.2 with ⟨h0, _⟩ | ⟨g', cap', cur, hv, _, hh, _⟩
    · cases h0
    · cases hv; exact ⟨cur, hh⟩
  obtain ⟨cur, hg⟩ := hg
  have hne : ∀ (b : Nat) (c : Array Value), w.heap[b]? = some (.cells c 4 (0, 0)) → w5.heap[b]? = some (.cells c 4 (0, 0)) := fun b c hb =>
    (hgrow.block b (Array.getElem?_eq_some_iff.1 hb).1 (fun e => by cases e; rw [hg] at hb; exact absurd (cells_typeM hb) (by decide))).trans hb
  refine ⟨?_, fun j hj => ?_, fun j hj => ?_, fun a b ha hb e => ?_⟩
  · rw [slcB_succ, slcB_congr (gr' := gr) (fun j hj => by rw [if_neg (by omega)]), if_pos rfl]
    exact hown
  · by_cases e : j = x
    · subst e; rw [if_pos rfl]; exact hne _ _ hr
    · rw [if_neg e]; exact hne _ _ (h.rows j (by omega))
  · by_cases e : j = x
    · rw [if_pos e]; exact hB
    · rw [if_neg e]; exact h.base j (by omega)
  · by_cases e1 : a = x
    · by_cases e2 : b = x
      · omega
      · rw [if_pos e1, if_neg e2] at e; exact absurd e.symm (hf b (by omega))
    · by_cases e2 : b = x
      · rw [if_neg e1, if_pos e2] at e; exact absurd e (hf a (by omega))
      · rw [if_neg e1, if_neg e2] at e; exact h.inj a b (by omega) (by omega) e
theorem MatI.same {B : Nat} {w : World} {n k : Nat} {v : Value} {gr : Nat → Nat} {m m' : Nat → Nat → Bool} (h : MatI B w n k v gr m) (h' : MatI B w n k v gr m') {x y : Nat} (hx : x < k) (hy : y < n) : m x y = m' x y := by
  have := (h.cell hx hy).1.symm.trans (h'.cell hx hy).1
  simpa using this
theorem restM_congr {n : Nat} {m m' : Nat → Nat → Bool} (h : ∀ x y, x < n → y < n → m x y = m' x y) : restM n m = restM n m' := by
  unfold restM
  congr 1
  refine List.map_congr_left fun x hx => ?_
  congr 1
  exact List.filter_congr fun y hy => by rw [h x y (by simpa using hx) (by simpa using hy)]
/-- The measure, out of the world. -/
noncomputable def restW (B : Nat) (n : Nat) (v : Value) (gr : Nat → Nat) (w : World) : Nat := open Classical in if h : ∃ m, MatI B w n n v gr m then restM n h.choose else 0
theorem restW_eq {B : Nat} {w : World} {n : Nat} {v : Value} {gr : Nat → Nat} {m : Nat → Nat → Bool} (h : MatI B w n n v gr m) : restW B n v gr w = restM n m := by
  have hx : ∃ m, MatI B w n n v gr m := ⟨m, h⟩
  unfold restW
  rw [dif_pos hx]
  exact restM_congr fun x y hx' hy' => hx.choose_spec.same h hx' hy'
theorem rest_put_le {n x y : Nat} {m : Nat → Nat → Bool} (hx : x < n) (hy : y < n) : restM n (putM m x y) ≤ restM n m := by
  cases e : m x y
  · have := rest_put hx hy e; omega
  · have : putM m x y = m := by
      funext a b
      unfold putM
      split
      · rename_i k; rw [k.1, k.2, e]
      · rfl
    rw [this]
    exact Nat.le_refl _

/-- Where x and y lead by class c, nothing is apart. -/
def clo1 (d : DfaD) (l : List Nat) (m : Nat → Nat → Bool) (x y c : Nat) : Prop :=
  ∀ tx ty, tx < l.length → ty < l.length → l.getD tx 0 = nxN d (l.getD x 0) c → l.getD ty 0 = nxN d (l.getD y 0) c → m tx ty = false
def cloP (d : DfaD) (l : List Nat) (m : Nat → Nat → Bool) (x y : Nat) : Prop := m x y = false → ∀ c, c ∈ usedF d (wdN d) → clo1 d l m x y c
/-- A pass over the pairs, D of them done. -/
structure PassI (d : DfaD) (l : List Nat) (m0 : Nat → Nat → Bool) (b : Bool) (m : Nat → Nat → Bool) (D : Nat → Nat → Prop) : Prop where
  ap : ApI d l m
  grew : b = true → restM l.length m < restM l.length m0
  same : b = false → m = m0 ∧ ∀ x y, D x y → cloP d l m0 x y
theorem PassI.start {d : DfaD} {l : List Nat} {m0 : Nat → Nat → Bool} (h : ApI d l m0) {D : Nat → Nat → Prop} (hD : ∀ x y, ¬D x y) : PassI d l m0 false m0 D := ⟨h, fun e => (by cases e), fun _ => ⟨rfl, fun x y hd => absurd hd (hD x y)⟩⟩
theorem PassI.done {d : DfaD} {l : List Nat} {m0 m : Nat → Nat → Bool} {b : Bool} {D D' : Nat → Nat → Prop} (h : PassI d l m0 b m D) (hD : ∀ x y, D' x y → D x y ∨ (b = false → cloP d l m0 x y)) : PassI d l m0 b m D' :=
  ⟨h.ap, h.grew, fun e => ⟨(h.same e).1, fun x y hd => (hD x y hd).elim ((h.same e).2 x y) (fun k => k e)⟩⟩
theorem PassI.put {d : DfaD} {l : List Nat} {m0 m : Nat → Nat → Bool} {b : Bool} {D : Nat → Nat → Prop} (h : PassI d l m0 b m D) {x y tx ty c : Nat} (hx : x < l.length) (hy : y < l.length) (h0 : b = false → m0 x y = false) (htx : tx < l.length) (hty : ty < l.length) (ex : l.getD tx 0 = stN d (l.getD x 0) c) (ey : l.getD ty 0 = stN d (l.getD y 0) c) (hc : c < 256) (ht : m tx ty = true) : PassI d l m0 true (putM m x y) D :=
  ⟨h.ap.put htx hty ex ey hc ht, fun _ => by
    cases b
    · have e := (h.same rfl).1
      rw [e]
      have := rest_put hx hy (h0 rfl)
      omega
    · exact Nat.lt_of_le_of_lt (rest_put_le hx hy) (h.grew rfl), fun e => by cases e⟩
theorem PassI.end {d : DfaD} (hf : DfaFine d) {l : List Nat} (hR : RchD d l) {m0 m : Nat → Nat → Bool} (h : PassI d l m0 false m fun x y => x < l.length ∧ y < l.length) {x y : Nat} (hx : x < l.length) (hy : y < l.length) : m x y = false ↔ Alike (stN d) (anN d) (l.getD x 0) (l.getD y 0) := by
  obtain ⟨e, hc⟩ := h.same rfl
  subst e
  exact apart_end hf hR h.ap (fun x y hx hy e c hcw hcc => hc x y ⟨hx, hy⟩ e c (usedF_mem.2 ⟨hcw, hcc⟩)) hx hy
/-- A class that is used: some byte has it. -/
theorem used_byte {d : DfaD} (hf : DfaFine d) {c : Nat} (h : c ∈ usedF d (wdN d)) : ∃ ch, ch < 256 ∧ clN d ch = c := by
  obtain ⟨i, hi, e⟩ := List.mem_iff_getElem.1 (usedF_mem.1 h).2
  have hcl := hf.cl
  refine ⟨i, by omega, ?_⟩
  unfold clN
  rw [List.getD_eq_getElem?_getD, List.getElem?_eq_getElem hi, e]
  simp
/-- Where a state leads by a class that is used. -/
theorem used_to {d : DfaD} (hf : DfaFine d) {l zs : List Nat} {n : Nat} (hR : RchD d l) (hP : PlI l zs n l.length) {x c : Nat} (hx : x < l.length) (hc : c ∈ usedF d (wdN d)) : ∃ tx ch, tx < l.length ∧ l.getD tx 0 = nxN d (l.getD x 0) c ∧ ch < 256 ∧ clN d ch = c ∧ zs.getD (nxN d (l.getD x 0) c) 0 = tx := by
  obtain ⟨ch, hch, e⟩ := used_byte hf hc
  have mx : l.getD x 0 ∈ l := by rw [List.getD_eq_getElem?_getD, List.getElem?_eq_getElem hx]; exact List.getElem_mem _
  obtain ⟨tx, htx, ex⟩ := idx_of (hR.cl _ mx ch hch)
  have ex' : l.getD tx 0 = nxN d (l.getD x 0) c := by rw [ex]; unfold stN; rw [e]
  exact ⟨tx, ch, htx, ex', hch, e, by rw [← ex']; exact hP.2 tx htx⟩
theorem clo1_no {d : DfaD} {l : List Nat} (hR : RchD d l) {m : Nat → Nat → Bool} {x y c tx ty : Nat} (htx : tx < l.length) (hty : ty < l.length) (ex : l.getD tx 0 = nxN d (l.getD x 0) c) (ey : l.getD ty 0 = nxN d (l.getD y 0) c) (h : m tx ty = false) : clo1 d l m x y c := fun tx' ty' h1 h2 e1 e2 => by
  rw [nodup_idx hR.nd h1 htx (e1.trans ex.symm), nodup_idx hR.nd h2 hty (e2.trans ey.symm)]
  exact h
theorem blRow_congr {n : Nat} {f g : Nat → Bool} (h : ∀ j, j < n → f j = g j) : blRow n f = blRow n g := by
  unfold blRow
  congr 1
  exact List.map_congr_left fun j hj => by rw [h j (by simpa using hj)]
theorem MatI.out1 {B : Nat} {w : World} {n k g cap : Nat} {gr : Nat → Nat} {m : Nat → Nat → Bool} (h : MatI B w n k (.slice (some ⟨g, 0, none⟩) k cap) gr m) {x : Nat} (hx : x < k) : w.cell? ⟨g, x, none⟩ = some (.slice (some ⟨gr x, 0, none⟩) n n) := by
  obtain ⟨g', cap', e, _, _, h⟩ := h.outer (by omega)
  cases e
  exact h x hx
def bitV : Value → Nat
  | .bool true => 1
  | _ => 0
/-- The pairs done where the walk stands at x, y. -/
def DonX (n x y : Nat) : Nat → Nat → Prop := fun a b => (a < x ∧ b < n) ∨ (a = x ∧ b < y)
theorem idx_facts {s wd c L : Nat} (hs : s ≤ 4000) (hw : wd ≤ 256) (hL : s * wd + c < L) : ∃ P : Int, (s : Int) * (wd : Int) = P ∧ 0 ≤ P ∧ P ≤ 1024000 ∧ P + (c : Int) < (L : Int) ∧ 0 ≤ P + (c : Int) ∧ (P + (c : Int)).toNat = s * wd + c := by
  have h1 : s * wd ≤ 4000 * 256 := Nat.mul_le_mul hs hw
  have e : (s : Int) * (wd : Int) = ((s * wd : Nat) : Int) := by simp
  refine ⟨_, e, ?_⟩
  generalize s * wd = q at *
  omega
theorem getD_mem {l : List Nat} {i : Nat} (h : i < l.length) : l.getD i 0 ∈ l := by rw [List.getD_eq_getElem?_getD, List.getElem?_eq_getElem h]; exact List.getElem_mem _
/-- What l2Apart answers. -/
def ApR (w : World) (d : DfaD) (l : List Nat) (e : Ending) (w' : World) : Prop :=
  ∃ (v : Value) (gr : Nat → Nat) (m : Nat → Nat → Bool) (B : Nat), e = .returned v ∧ w.heap.size ≤ B ∧ MatI B w' l.length l.length v gr m ∧ Below w.heap.size w w' ∧
    ∀ x y, x < l.length → y < l.length → (m x y = false ↔ Alike (stN d) (anN d) (l.getD x 0) (l.getD y 0))
end Go.Proofs.Ytgbdlgogccgciaa
