import Derived.Test.YtgbdlgogccgciaaMinF
import Derived.Test.YtgbdlgogccgciaaMinK
namespace Go.Proofs.Ytgbdlgogccgciaa
open Go.RowKit

theorem IntsAt.low {lo lo' : Nat} {w : World} {v : Value} {xs : List Int} (h : IntsAt lo w v xs) (hl : lo' ≤ lo) : IntsAt lo' w v xs := by
  obtain ⟨a, c, h1, h2, h3⟩ := h
  exact ⟨a, c, h1, h2, fun hx => by obtain ⟨b, o, e1, e2, e3⟩ := h3 hx; exact ⟨b, o, e1, by omega, e3⟩⟩
theorem DfaAt.low {lo lo' : Nat} {w : World} {cv nv tv ev : Value} {d : DfaD} (h : DfaAt lo w cv nv tv ev d) (hl : lo' ≤ lo) : DfaAt lo' w cv nv tv ev d := ⟨h.classes.low hl, h.next.low hl, h.tag.low hl, h.fin.low hl⟩
/- WHAT Minimize ANSWERS. -/
def rowD (width : Int) (v : Nat → Value) : Array Value := #[v 0, .int .i64 width, v 1, v 2, v 3]
def zeroD : Array Value := #[.slice none 0 0, .int .i64 0, .slice none 0 0, .slice none 0 0, .slice none 0 0]
def MinAns (w : World) (width : Int) (l : Nat → List Int) (e : Ending) (w' : World) : Prop := ∃ (gt : Nat) (v : Nat → Value), e = .returned (.agg (rowD width v)) ∧ w.heap.size ≤ gt ∧ Fam gt 4 w' v l ∧ Below w.heap.size w w'
noncomputable def rwA (d : DfaD) : Nat → Nat → Nat := rowA (stN d) (anN d)
noncomputable def mnL (d : DfaD) (K : Nat) : Nat → List Int
  | 0 => (List.range 256).map fun c => (clsF K (rwA d) c : Int)
  | 1 => (List.range K).flatMap fun k => (headsF K (rwA d) 256).map fun h => (rwA d k h : Int)
  | 2 => (walkA (stN d) (anN d) K 0).map fun s => d.tag.getD s 0
  | _ => (walkA (stN d) (anN d) K 0).map fun s => d.fin.getD s 0
def MinP (w : World) (d : DfaD) (e : Ending) (w' : World) : Prop := ∃ K, Going (stN d) (anN d) K ∧ (walkA (stN d) (anN d) K 0).length = K ∧ MinAns w (headsF K (rwA d) 256).length (mnL d K) e w'

theorem stepF_nat {d : DfaD} (hf : DfaFine d) {s c : Nat} (hs : s < d.tag.length) (hc : c < 256) : stepF d (s : Int) c = (stN d s c : Int) := by
  have h1 := hf.clc hc
  have h2 := hf.nx hs h1.2
  have hw := hf.wd.1
  unfold stepF nextAt clsAt
  rw [h1.1, hw]
  have e : ((s : Int) * (wdN d : Int) + (clN d c : Int)).toNat = s * wdN d + clN d c := by
    have : (s : Int) * (wdN d : Int) + (clN d c : Int) = ((s * wdN d + clN d c : Nat) : Int) := by simp
    rw [this, Int.toNat_natCast]
  rw [e]
  exact h2.1
theorem l2Go_nat {lo : Nat} (cv nv tv ev : Value) (d : DfaD) (s c t : Nat) (ci : Int) (hci : ci = c) (w : World) (hs : DfaAt lo w cv nv tv ev d) (hf : DfaFine d) (h1 : s < d.tag.length) (hc : c < 256) (ht : stN d s c = t) :
    Calls Try.prog 15 #[.agg #[cv, .int .i64 d.width, nv, tv, ev], .int .i64 (s : Int), .int .i64 ci] w fun e w' => e = .returned (.int .i64 (t : Int)) ∧ Below w.heap.size w w' := by
  subst hci
  refine (l2Go_ok cv nv tv ev d (s : Int) c w hs hf (by omega) (by omega) hc).mono ?_
  rintro e w' ⟨rfl, hb⟩
  rw [stepF_nat hf h1 hc, ht]
  exact ⟨rfl, hb⟩

/- WHERE THE WALK OVER CHIEFS STANDS. -/
noncomputable def rowP (d : DfaD) (x c : Nat) : List Int := (List.range c).map fun c => (rwA d x c : Int)
theorem rowP_len (d : DfaD) (x c : Nat) : (rowP d x c).length = c := by simp [rowP]
theorem rowP_succ (d : DfaD) (x c : Nat) : rowP d x (c + 1) = rowP d x c ++ [(rwA d x c : Int)] := by simp [rowP, List.range_succ]
theorem rowP_get (d : DfaD) (x : Nat) {c n : Nat} (h : c < n) : (rowP d x n).getD c 0 = (rwA d x c : Int) := by simp [rowP, List.getD, h]
def rowsV (v : Nat → Value) (k : Nat) : List Value := (List.range k).map fun x => v (x + 1)
theorem rowsV_succ (v : Nat → Value) (k : Nat) : rowsV v (k + 1) = rowsV v k ++ [v (k + 1)] := by simp [rowsV, List.range_succ]
theorem rowsV_congr {v v' : Nat → Value} {k : Nat} (h : ∀ x, x < k → v (x + 1) = v' (x + 1)) : rowsV v k = rowsV v' k := List.map_congr_left fun x hx => h x (by simpa using hx)
structure OrS (d : DfaD) (W5 : World) (gt : Nat) (W : World) (k : Nat) (rv : Value) (v : Nat → Value) (ls : Nat → List Int) (os : List Nat) (n : Nat) : Prop where
  fam : Fam gt n W v ls
  l0 : ls 0 = intsN os
  lk : ∀ x, x < k → ls (x + 1) = rowP d x 256
  out : W.ownsRow (gt + 1) 22 1 rv k (rowsV v k)
  below : Below (gt + 1) W5 W
  top : W5.heap.size = gt + 1
theorem OrS.size {d : DfaD} {W5 W : World} {gt k n : Nat} {rv : Value} {v : Nat → Value} {ls : Nat → List Int} {os : List Nat} (h : OrS d W5 gt W k rv v ls os n) : gt + 1 ≤ W.heap.size := by have := h.below.size; rw [h.top] at this; exact this
theorem OrS.on {d : DfaD} {W5 W W' : World} {gt k n : Nat} {rv : Value} {v : Nat → Value} {ls : Nat → List Int} {os : List Nat} (h : OrS d W5 gt W k rv v ls os n) (hb : Below W.heap.size W W') : OrS d W5 gt W' k rv v ls os n :=
  ⟨h.fam.below hb, h.l0, h.lk, ownsRow_below h.out hb, h.below.trans (hb.mono h.size), h.top⟩
theorem own_others {gt n : Nat} {W W' : World} {v : Nat → Value} {l : Nat → List Int} (h : Fam gt n W v l) {i : Nat} (hi : i < n) (hgr : W.grownBy W' (v i).ownBlock) {B : Nat} {rv : Value} {k : Nat} {xs : List Value} (ho : W.ownsRow B 22 1 rv k xs) : W'.ownsRow B 22 1 rv k xs :=
  own_keepM ho fun _ _ e => h.others hi hgr (by decide) e
theorem OrS.new {d : DfaD} {W5 W : World} {gt k n : Nat} {rv : Value} {v : Nat → Value} {ls : Nat → List Int} {os : List Nat} (h : OrS d W5 gt W k rv v ls os n) (hn : k < n) : OrS d W5 gt (W.alloc (.cells #[] 3)) k rv (upd v n (.slice (some ⟨W.heap.size, 0, none⟩) 0 0)) (updL ls n []) os (n + 1) := by
  have hb : Below W.heap.size W (W.alloc (.cells #[] 3)) := (Below.refl _ _).alloc (Nat.le_refl _) _
  refine ⟨h.fam.new h.size, by rw [updL_ne _ _ (by omega)]; exact h.l0, fun x hx => by rw [updL_ne _ _ (by omega)]; exact h.lk x hx, ?_, h.below.trans (hb.mono h.size), h.top⟩
  rw [rowsV_congr (v' := v) (fun x hx => upd_ne _ _ (by omega))]
  exact ownsRow_below h.out hb
theorem OrS.grow {d : DfaD} {W5 W W' : World} {gt k n : Nat} {rv : Value} {v : Nat → Value} {ls : Nat → List Int} {os : List Nat} (h : OrS d W5 gt W k rv v ls os n) {i : Nat} (hi : i < n) (hik : i = 0 ∨ k < i) {u : Value} {ys : List Int} (hF : Fam gt n W' (upd v i u) (updL ls i ys)) (hg : W.grownBy W' (v i).ownBlock) {os' : List Nat} (ho : updL ls i ys 0 = intsN os') : OrS d W5 gt W' k rv (upd v i u) (updL ls i ys) os' n := by
  refine ⟨hF, ho, fun x hx => by rw [updL_ne _ _ (by omega)]; exact h.lk x hx, ?_, h.below.grown hg h.size (fun b hb => (owns_block (h.fam.own i hi) hb).1), h.top⟩
  rw [rowsV_congr (v' := v) (fun x hx => upd_ne _ _ (by omega))]
  exact own_others h.fam hi hg h.out
theorem own_slices {W : World} {B g k cap : Nat} {xs : List Value} (h : W.ownsRow B 22 1 (.slice (some ⟨g, 0, none⟩) k cap) k xs) : ∃ cur : Array Value, W.heap[g]? = some (.cells cur 22 (0, 0)) := by
  rcases h.2 with ⟨h0, _⟩ | ⟨g', cap', cur, hv, _, hh, _⟩
  · cases h0
  · cases hv; exact ⟨cur, hh⟩
theorem OrS.more {d : DfaD} {W5 W W' : World} {gt k g cap : Nat} {rv' : Value} {v : Nat → Value} {ls : Nat → List Int} {os : List Nat} (h : OrS d W5 gt W k (.slice (some ⟨g, 0, none⟩) k cap) v ls os (k + 2)) (hl : ls (k + 1) = rowP d k 256) (hg : W.grownBy W' (some g)) (ho : W'.ownsRow (gt + 1) 22 1 rv' (k + 1) (rowsV v k ++ [v (k + 1)])) : OrS d W5 gt W' (k + 1) rv' v ls os (k + 2) := by
  obtain ⟨cur, hc⟩ := own_slices h.out
  refine ⟨h.fam.other hc (by decide) hg, h.l0, fun x hx => ?_, by rw [rowsV_succ]; exact ho, h.below.grown hg h.size (fun b hb => by cases hb; exact (own_form h.out).1), h.top⟩
  by_cases e : x = k
  · subst e; exact hl
  · exact h.lk x (by omega)
theorem own_one {W : World} {B g : Nat} {x : Int} (h : W.heap[g]? = some (.cells #[.int .i64 x] 3 (0, 0))) (hB : B ≤ g) : Owns B W (.slice (some ⟨g, 0, none⟩) 1 1) [x] :=
  ⟨rfl, .inr ⟨g, 1, _, rfl, hB, h, Nat.le_refl _, by unfold maxLen; omega, rfl, rfl⟩⟩
theorem OrS.start {d : DfaD} {W5 : World} {gt x : Nat} (ht : W5.heap.size = gt + 1) : OrS d W5 gt ((W5.alloc (.cells #[.int .i64 (x : Int)] 3)).alloc (.cells #[] 22)) 0 (.slice (some ⟨W5.heap.size + 1, 0, none⟩) 0 0) (fun _ => .slice (some ⟨W5.heap.size, 0, none⟩) 1 1) (fun _ => [(x : Int)]) [x] 1 := by
  have hb1 : Below W5.heap.size W5 (W5.alloc (.cells #[.int .i64 (x : Int)] 3)) := (Below.refl _ _).alloc (Nat.le_refl _) _
  have hb2 : Below W5.heap.size W5 ((W5.alloc (.cells #[.int .i64 (x : Int)] 3)).alloc (.cells #[] 22)) := hb1.alloc hb1.size _
  have h1 : ((W5.alloc (.cells #[.int .i64 (x : Int)] 3)).alloc (.cells #[] 22)).heap[W5.heap.size]? = some (.cells #[.int .i64 (x : Int)] 3 (0, 0)) :=
    (Below.heap_alloc _ _ _ (by simp)).trans (heap_alloc_new W5 _)
  have h2 := ownsRow_new (W5.alloc (.cells #[.int .i64 (x : Int)] 3)) 22
  refine ⟨⟨fun i hi => own_one h1 (by omega), fun i j hi hj hne => by omega⟩, rfl, fun x hx => by omega, ?_, by rw [← ht]; exact hb2, ht⟩
  have e : (W5.alloc (.cells #[.int .i64 (x : Int)] 3)).heap.size = W5.heap.size + 1 := by simp
  rw [e] at h2
  exact own_monoN h2 (by omega)
end Go.Proofs.Ytgbdlgogccgciaa
