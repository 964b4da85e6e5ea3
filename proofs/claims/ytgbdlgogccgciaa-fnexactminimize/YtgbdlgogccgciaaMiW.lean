import Derived.Test.YtgbdlgogccgciaaMiV
import Derived.Test.YtgbdlgogccgciaaRfNRfO
import Derived.Test.YtgbdlgogccgciaaPre
namespace Go.Proofs.Ytgbdlgogccgciaa
open Go.RowKit
attribute [local go_sem] Oper.semAt_some

theorem app_fam0 {W : World} {gt n : Nat} {v : Nat → Value} {l : Nat → List Int} (S : Fam gt n W v l) (i : Nat) (hi : i < n) (xs : List Int) (hxs : l i = xs) (m : Nat) (hn : xs.length = m) (vi : Value) (hv : v i = vi) (y : Int) (hl : m ≤ 2000000) (hB : gt + 1 ≤ W.heap.size) (ty : TypeId) :
    ∃ g cap W', (appD #[22, 22] ty #[vi, .slice (some ⟨W.heap.size, 0, none⟩) 1 1]).run Try.prog (W.alloc (.cells #[.int .i64 y] 3)) = .ok (.slice (some ⟨g, 0, none⟩) (m + 1) cap) W' ∧ Fam gt n W' (upd v i (.slice (some ⟨g, 0, none⟩) (m + 1) cap)) (updL l i (xs ++ [y])) ∧ W.grownBy W' (v i).ownBlock := by
  subst hn; subst hxs; subst hv
  obtain ⟨i0, hi0, hz0, hz1, hz2⟩ := info_parts Try.infoInt
  have hb : Below W.heap.size W (W.alloc (.cells #[.int .i64 y] 3)) := (Below.refl _ _).alloc (Nat.le_refl _) _
  have own : (W.alloc (.cells #[.int .i64 y] 3)).ownsRow (gt + 1) 3 1 (v i) (l i).length ((l i).map intV) := (S.below hb).own i hi
  have hsz : (W.alloc (.cells #[.int .i64 y] 3)).heap.size = W.heap.size + 1 := by simp
  obtain ⟨g, cap, W', hr, own', grow', at', _⟩ := run_append_lies (P := Try.prog) (W.alloc (.cells #[.int .i64 y] 3)) 22 ty (gt + 1) 3 i0 _ 1 8 Try.underlying22 hi0 hz0 hz1 hz2 rfl (by omega) (v i) (l i).length ((l i).map intV) own ⟨W.heap.size, 0, none⟩ 1 1 [.int .i64 y] rfl (one_newD (heap_alloc_new _ _)) (by intro u hu; simp at hu; subst hu; rfl) (by omega) (by unfold maxLen; omega) (by omega) (by omega) (W.heap.size + 1) hsz
  refine ⟨g, cap, W', hr, Fam.append (S.below hb) hi own' grow' (at'.imp id (fun h => by omega)), ?_⟩
  exact ⟨grow'.os.trans hb.os, grow'.tape.trans hb.tape, grow'.output.trans hb.output, Nat.le_trans hb.size grow'.size, fun k hk hne => (grow'.block k (by have := hb.size; omega) hne).trans (hb.block k hk)⟩
theorem keeps_below {W W' : World} (h : Below W.heap.size W W') : KeepsOthers W W' := ⟨h.size, fun k _ hk _ => (h.block k (Array.getElem?_eq_some_iff.1 hk).1).trans hk⟩
theorem keeps_fam {gt n : Nat} {W W' : World} {v : Nat → Value} {l : Nat → List Int} (h : Fam gt n W v l) {i : Nat} (hi : i < n) (hg : W.grownBy W' (v i).ownBlock) : KeepsOthers W W' := KeepsOthers.of_grownBy hg fun _ _ e ho => by
  obtain ⟨cs, hc⟩ := owns_int (h.own i hi) e
  rw [hc] at ho
  rw [← Option.some.inj ho]
  rfl
attribute [local go_sem ↓] append_appD

/-- Where a round over the bytes stands. -/
structure WbI (w : World) (D : Array Value) (bv : Value) (d : DfaD) (o : List Nat) (k gN : Nat) (Ds : List Nat) (c : Nat) (nb : List Int) (v : Nat → Value) (l : Nat → List Int) (W : World) : Prop where
  st : WbS w D bv (walkA (stN d) (anN d) k c) nb k gN v l W
  wk : WkI d o (walkA (stN d) (anN d) k c) nb
  mr : ∀ x ∈ Ds, W.heap[x]? = some (.deferred (some []))
theorem WbI.own (w : World) (D : Array Value) (bv : Value) (d : DfaD) (o : List Nat) (k gN : Nat) (Ds : List Nat) (B : Nat) (hB : ∀ x ∈ Ds, x < B) (hw : w.heap.size ≤ B) : OwnFrom B (fun c W => ∃ nb v l, WbI w D bv d o k gN Ds c nb v l W) := by
  rintro c W W' row ⟨nb, v, l, h⟩ hg hr
  have hc : ∀ (b : Nat) (cs : Array Value) (t : TypeId), W.heap[b]? = some (.cells cs t (0, 0)) → W'.heap[b]? = some (.cells cs t (0, 0)) := fun b cs t hb => (hg.block b (row_lt hb) (fun e => by obtain ⟨_, o, h1, h2⟩ := hr b e.symm; rw [hb] at h1; cases h1; cases h2)).trans hb
  refine ⟨nb, v, l, h.st.cells hc (h.st.be.grown hg h.st.be.size (fun q e => by have := (hr q e).1; omega)), h.wk, fun x hx => ?_⟩
  exact (hg.block x (Array.getElem?_eq_some_iff.1 (h.mr x hx)).1 (fun e => by have := (hr x e.symm).1; have := hB x hx; omega)).trans (h.mr x hx)

/-- What a round reads. -/
structure WbL (w : World) (D : Array Value) (bb bo n bc : Nat) (k gN g0 n0 c0 g5 c5 : Nat) (W : World) : Prop where
  zD : W.heap[w.heap.size]? = some (.cells D 26 (0, 0))
  zB : W.cell? ⟨w.heap.size + 1, 0, none⟩ = some (.slice (some ⟨bb, bo, none⟩) n bc)
  z4 : W.cell? ⟨w.heap.size + 1 + 1, 0, none⟩ = some (.slice (some ⟨g0, 0, none⟩) n0 c0)
  f4 : W.frozen? ⟨w.heap.size + 1 + 1, 0, none⟩ = false
  z5 : W.cell? ⟨w.heap.size + 1 + 1 + 1, 0, none⟩ = some (.slice (some ⟨g5, 0, none⟩) n c5)
  f5 : W.frozen? ⟨w.heap.size + 1 + 1 + 1, 0, none⟩ = false
  zN : W.cell? ⟨gN, 0, none⟩ = some (.int .i64 (k : Int))
theorem WbS.look {w : World} {D : Array Value} {bb bo n bc : Nat} {os : List Nat} {nb : List Int} {k gN : Nat} {v : Nat → Value} {l : Nat → List Int} {W : World} (h : WbS w D (.slice (some ⟨bb, bo, none⟩) n bc) os nb k gN v l W) (ho : 0 < os.length) (hn : nb.length = n) (hn0 : 0 < n) :
    ∃ g0 c0 g5 c5, v 0 = .slice (some ⟨g0, 0, none⟩) os.length c0 ∧ v 1 = .slice (some ⟨g5, 0, none⟩) n c5 ∧ WbL w D bb bo n bc k gN g0 os.length c0 g5 c5 W ∧ (∀ j, j < os.length → W.cell? ⟨g0, j, none⟩ = some (.int .i64 ((os.getD j 0 : Nat) : Int))) ∧ (∀ j, j < n → W.cell? ⟨g5, j, none⟩ = some (.int .i64 (nb.getD j 0)) ∧ W.frozen? ⟨g5, j, none⟩ = false) := by
  obtain ⟨g0, c0, e0, hc0⟩ := h.fam.nats (i := 0) (by omega) h.l0 ho
  have h1 := h.fam.own 1 (by omega)
  rw [h.l1] at h1
  obtain ⟨g5, c5, e5, _, _, hc5⟩ := owns_some h1 (by omega)
  rw [hn] at e5 hc5
  obtain ⟨cs, hcs⟩ := owns_int (h.fam.own 1 (by omega)) (b := g5) (by rw [e5]; rfl)
  have hw := h.fam.own 2 (by omega)
  rw [h.l2] at hw
  obtain ⟨g, c, e, _, _, hN⟩ := owns_some hw (by simp)
  rw [h.v2] at e
  cases e
  refine ⟨g0, c0, g5, c5, e0, e5, ⟨h.bD, by rw [cell_of_row _ _ _ _ _ _ h.bB]; rfl, by rw [cell_of_row _ _ _ _ _ _ h.b4, ← e0]; rfl, frozen_of_row _ _ 0 _ _ h.b4, by rw [cell_of_row _ _ _ _ _ _ h.b5, ← e5]; rfl, frozen_of_row _ _ 0 _ _ h.b5, hN 0 (by simp)⟩, hc0, fun j hj => ⟨hc5 j hj, frozen_of_row _ _ j _ _ hcs⟩⟩
theorem set_same {W : World} {g : Nat} {x : Value} {t : TypeId} (h : W.heap[g]? = some (.cells #[x] t (0, 0))) {b : Nat} {ob : Obj} (hb : W.heap[b]? = some ob) : (W.setCell ⟨g, 0, none⟩ x).heap[b]? = some ob := by
  by_cases e : b = g
  · subst e
    rw [heap_setCell_same W b 0 _ _ x h, ← hb, h]
    rfl
  · exact (heap_setCell_other _ _ _ _ (by exact e)).trans hb
/-- What walkBlocks answers. -/
def WbR (w : World) (d : DfaD) (o : List Nat) (e : Ending) (w' : World) : Prop := ∃ (K g1 c1 g2 c2 : Nat) (nb : List Int), Going (stN d) (anN d) K ∧ (walkA (stN d) (anN d) K 0).length = K ∧ e = .returned (.tuple #[.slice (some ⟨g1, 0, none⟩) K c1, .slice (some ⟨g2, 0, none⟩) d.tag.length c2]) ∧ Owns w.heap.size w' (.slice (some ⟨g1, 0, none⟩) K c1) (intsN (walkA (stN d) (anN d) K 0)) ∧ Owns w.heap.size w' (.slice (some ⟨g2, 0, none⟩) d.tag.length c2) nb ∧ WkI d o (walkA (stN d) (anN d) K 0) nb ∧ Below w.heap.size w w'
set_option maxRecDepth 100000 in
set_option maxHeartbeats 8000000 in
theorem walk_ok {bb bo bc : Nat} (cv nv tv ev : Value) (d : DfaD) (o : List Nat) (w : World) (hs : DfaAt 0 w cv nv tv ev d) (hf : DfaFine d)
    (hbl : bb < w.heap.size) (hbq : ∀ i, i < d.tag.length → w.cell? ⟨bb, bo + i, none⟩ = some (.int .i64 ((o.getD i 0 : Nat) : Int))) (ho : ∀ s, s < d.tag.length → o.getD s 0 < d.tag.length) (hA : ∀ s t, s < d.tag.length → t < d.tag.length → (o.getD s 0 = o.getD t 0 ↔ Alike (stN d) (anN d) s t)) :
    Calls Try.prog 29 #[.agg #[cv, .int .i64 d.width, nv, tv, ev], .slice (some ⟨bb, bo, none⟩) d.tag.length bc] w (WbR w d o) := by
  have hmix : Try.prog.follows .mixedOrders = true := by kernel_rfl
  have hn1 := hf.n1
  have hn2 := hf.n2
  have Hs : Hid _ := hs
  obtain ⟨⟨ca, cc, rfl, cm, cx⟩, ⟨na, nc, rfl, nm, nx⟩, ⟨ta, tc, rfl, tm, tx⟩, ⟨ea, ec, rfl, em, ex⟩⟩ := hs
  clear cx nx tx ex
  have HF : Hid (DfaFine d) := hf
  have Hbq : Hid _ := hbq
  have Ho : Hid _ := ho
  have HA : Hid _ := hA
  clear hf hbq ho hA
  obtain ⟨W1, hW1⟩ : ∃ W1, ((((w.alloc (.cells #[.slice ca d.classes.length cc, .int .i64 d.width, .slice na d.next.length nc, .slice ta d.tag.length tc, .slice ea d.fin.length ec] 26)).alloc (.cells #[.slice (some ⟨bb, bo, none⟩) d.tag.length bc] 22)).alloc (.cells #[.slice none 0 0] 22)).alloc (.cells #[.slice none 0 0] 22)) = W1 := ⟨_, rfl⟩
  have hs1 : W1.heap.size = w.heap.size + 4 := by rw [← hW1]; simp
  have hb1 : Below w.heap.size w W1 := by rw [← hW1]; exact ((((Below.refl _ _).alloc (Nat.le_refl _) _).alloc (by simp) _).alloc (by simp; omega) _).alloc (by simp; omega) _
  have xD : W1.heap[w.heap.size]? = some (.cells #[.slice ca d.classes.length cc, .int .i64 d.width, .slice na d.next.length nc, .slice ta d.tag.length tc, .slice ea d.fin.length ec] 26 (0, 0)) := by
    rw [← hW1, Below.heap_alloc _ _ _ (by simp; omega), Below.heap_alloc _ _ _ (by simp; omega), Below.heap_alloc _ _ _ (by simp)]; exact heap_alloc_new _ _
  have xB : W1.heap[w.heap.size + 1]? = some (.cells #[.slice (some ⟨bb, bo, none⟩) d.tag.length bc] 22 (0, 0)) := by
    rw [← hW1, Below.heap_alloc _ _ _ (by simp), Below.heap_alloc _ _ _ (by simp)]
    have := heap_alloc_new (w.alloc (.cells #[.slice ca d.classes.length cc, .int .i64 d.width, .slice na d.next.length nc, .slice ta d.tag.length tc, .slice ea d.fin.length ec] 26)) (.cells #[.slice (some ⟨bb, bo, none⟩) d.tag.length bc] 22)
    simpa using this
  have x4 : W1.heap[w.heap.size + 1 + 1]? = some (.cells #[.slice none 0 0] 22 (0, 0)) := by
    rw [← hW1, Below.heap_alloc _ _ _ (by simp)]
    have := heap_alloc_new ((w.alloc (.cells #[.slice ca d.classes.length cc, .int .i64 d.width, .slice na d.next.length nc, .slice ta d.tag.length tc, .slice ea d.fin.length ec] 26)).alloc (.cells #[.slice (some ⟨bb, bo, none⟩) d.tag.length bc] 22)) (.cells #[.slice none 0 0] 22)
    simpa using this
  have x5 : W1.heap[w.heap.size + 1 + 1 + 1]? = some (.cells #[.slice none 0 0] 22 (0, 0)) := by
    rw [← hW1]
    have := heap_alloc_new (((w.alloc (.cells #[.slice ca d.classes.length cc, .int .i64 d.width, .slice na d.next.length nc, .slice ta d.tag.length tc, .slice ea d.fin.length ec] 26)).alloc (.cells #[.slice (some ⟨bb, bo, none⟩) d.tag.length bc] 22)).alloc (.cells #[.slice none 0 0] 22)) (.cells #[.slice none 0 0] 22)
    simpa using this
  obtain ⟨W2, hW2⟩ : ∃ W2, W1.alloc (.cells #[.int .i64 (-1)] 3) = W2 := ⟨_, rfl⟩
  have hb2 : Below W1.heap.size W1 W2 := by rw [← hW2]; exact (Below.refl _ _).alloc (Nat.le_refl _) _
  have hs2 : W2.heap.size = w.heap.size + 5 := by rw [← hW2]; simp [hs1]
  have xm : W2.heap[w.heap.size + 4]? = some (.cells #[.int .i64 (-1)] 3 (0, 0)) := by rw [← hW2, ← hs1]; exact heap_alloc_new _ _
  have hrep := repeat_ok (-1) (w.heap.size + 4) d.tag.length W2 (by rw [cell_of_row _ _ _ _ _ _ xm]; rfl) (by omega) (by omega) (by omega)
  obtain ⟨q0, q1, q2, q3, q4⟩ := row_five (row_below xD hb2)
  have HXD : Hid _ := row_below xD hb2
  have HXB : Hid _ := row_below xB hb2
  have HX4 : Hid _ := row_below x4 hb2
  have HX5 : Hid _ := row_below x5 hb2
  have HB2 : Hid (Below w.heap.size w W2) := hb1.trans (hb2.mono hb1.size)
  have Hs1 : Hid _ := hs1
  have Hs2 : Hid _ := hs2
  clear xD xB x4 x5 hb2 xm hb1 hs2
  refine (callsIn_wide (n := 5)).1 ?_
  refine callsIn_of_wp_marks Try.func29 rfl trivial ?_ rfl
  refine wpIn_wide.2 ?_
  simp only [Try.ntmps29, List.size_toArray, List.length_cons, List.length_nil, Nat.reduceAdd, Nat.reduceSub, Array.replicate_succ, Array.replicate_zero, List.push_toArray, List.append_toArray, List.nil_append, List.cons_append]
  go_wp2_with fail
  refine hrep.mono ?_
  rintro e w3 ⟨rfl, hr3, hb3⟩
  have B0 := Hbq.out 0 (by omega)
  have hB3 : Below w.heap.size w w3 := HB2.out.trans (hb3.mono HB2.out.size)
  have cb0 : ∀ W, Below w.heap.size w W → W.cell? ⟨bb, bo, none⟩ = some (.int .i64 ((o.getD 0 0 : Nat) : Int)) := fun W hW => (hW.cell (p := ⟨bb, bo, none⟩) hbl).trans B0
  have ho0 := Ho.out 0 (by omega)
  have hg5 : w.heap.size + 4 ≤ W2.heap.size := by have := Hs2.out; omega
  have HST : Hid _ := fun nq => WbS.start (x0 := o.getD 0 0) nq (row_below HXD.out hb3) (row_below HXB.out hb3) (row_below HX4.out hb3) (row_below HX5.out hb3) hr3 hg5 hB3 (by omega)
  have hgl := row_lt hr3
  obtain ⟨W4, hW4⟩ : ∃ W4, w3.setCell ⟨w.heap.size + 1 + 1 + 1, 0, none⟩ (.slice (some ⟨W2.heap.size, 0, none⟩) d.tag.length d.tag.length) = W4 := ⟨_, rfl⟩
  obtain ⟨W5, hW5⟩ : ∃ W5, W4.alloc (.cells #[.int .i64 0] 3) = W5 := ⟨_, rfl⟩
  obtain ⟨W6, hW6⟩ : ∃ W6, W5.setCell ⟨w.heap.size + 1 + 1, 0, none⟩ (.slice (some ⟨w3.heap.size, 0, none⟩) 1 1) = W6 := ⟨_, rfl⟩
  have s4 : W4.heap.size = w3.heap.size := by rw [← hW4]; simp [World.setCell]
  have o4 : ∀ {b : Nat} {ob : Obj}, b ≠ w.heap.size + 1 + 1 + 1 → w3.heap[b]? = some ob → W4.heap[b]? = some ob := fun hb h => by rw [← hW4]; exact (heap_setCell_other _ _ _ _ (by exact hb)).trans h
  have x54 := heap_setCell_same w3 (w.heap.size + 1 + 1 + 1) 0 _ _ (.slice (some ⟨W2.heap.size, 0, none⟩) d.tag.length d.tag.length) (row_below HX5.out hb3)
  rw [hW4] at x54
  have bb5 : Below W4.heap.size W4 W5 := by rw [← hW5]; exact (Below.refl _ _).alloc (Nat.le_refl _) _
  have x45 := row_below (o4 (by omega) (row_below HX4.out hb3)) bb5
  have o6 : ∀ {b : Nat} {cs : Array Value} {e : TypeId}, b ≠ w.heap.size + 1 + 1 → W4.heap[b]? = some (.cells cs e (0, 0)) → W6.heap[b]? = some (.cells cs e (0, 0)) := fun hb h => by rw [← hW6]; exact (heap_setCell_other _ _ _ _ (by exact hb)).trans (row_below h bb5)
  have x56 := o6 (by omega) x54
  have xB6 := o6 (by omega) (o4 (by omega) (row_below HXB.out hb3))
  have xr6 := o6 (by omega) (o4 (by omega) hr3)
  have y5 : w3.cell? ⟨w.heap.size + 1 + 1 + 1, 0, none⟩ = some (.slice none 0 0) := by rw [cell_of_row _ _ _ _ _ _ (row_below HX5.out hb3)]; rfl
  have f5 := frozen_of_row _ _ 0 _ _ (row_below HX5.out hb3)
  have y4 : W5.cell? ⟨w.heap.size + 1 + 1, 0, none⟩ = some (.slice none 0 0) := by rw [cell_of_row _ _ _ _ _ _ x45]; rfl
  have f4 := frozen_of_row _ _ 0 _ _ x45
  have y56 : W6.cell? ⟨w.heap.size + 1 + 1 + 1, 0, none⟩ = some (.slice (some ⟨W2.heap.size, 0, none⟩) d.tag.length d.tag.length) := by rw [cell_of_row _ _ _ _ _ _ x56]; rfl
  have yB6 : W6.cell? ⟨w.heap.size + 1, 0, none⟩ = some (.slice (some ⟨bb, bo, none⟩) d.tag.length bc) := by rw [cell_of_row _ _ _ _ _ _ xB6]; rfl
  have yr6 : W6.cell? ⟨W2.heap.size, o.getD 0 0, none⟩ = some (.int .i64 (-1)) := by rw [cell_of_row _ _ _ _ _ _ xr6, List.getElem?_toArray, repL_get _ ho0, if_pos ho0]
  have fr6 := frozen_of_row _ _ (o.getD 0 0) _ _ xr6
  have hB6 : Below w.heap.size w W6 := by
    have h4 : Below w.heap.size w W4 := by rw [← hW4]; exact hB3.setCell (p := ⟨w.heap.size + 1 + 1 + 1, 0, none⟩) (by show w.heap.size ≤ w.heap.size + 1 + 1 + 1; omega) _
    have h5 := h4.trans (bb5.mono h4.size)
    rw [← hW6]
    exact h5.setCell (p := ⟨w.heap.size + 1 + 1, 0, none⟩) (by show w.heap.size ≤ w.heap.size + 1 + 1; omega) _
  have yb6 := cb0 W6 hB6
  have s6 : W6.heap.size = w3.heap.size + 1 := by rw [← hW6, ← hW5]; simp [World.setCell, s4]
  rw [hW4, hW5, hW6] at HST
  have hi1 : ((o.getD 0 0 : Nat) : Int) < (d.tag.length : Int) := by omega
  have hi0 : (0 : Int) < (d.tag.length : Int) := by omega
  have Hs6 : Hid _ := s6
  clear hrep q0 q1 q2 q3 q4 hr3 hb3 cb0 HXD HXB HX4 HX5 hW1 hW2 hs1 B0 x54 x45 x56 xB6 xr6 bb5 hB6 s6 o6 o4
  generalize hx0 : o.getD 0 0 = x0 at *
  go_wp2
  refine wp_region_lastM 5 hmix (by kernel_rfl) rfl rfl rfl ?_
  intro os hos
  simp only [List.take_succ_cons, List.take_zero] at hos
  subst hos
  repeat (go_big_quiet_step (fail))
  refine wpQuiet_nil ?_
  intro w' hw' K hK
  obtain ⟨nq, rfl⟩ := hw'
  first | go_big_move | go_big_op
  refine hK _ _ ?_
  clear hK K
  obtain ⟨v, l, hv1, hST⟩ := HST.out nq
  have HST2 : Hid (WbI w #[.slice ca d.classes.length cc, .int .i64 d.width, .slice na d.next.length nc, .slice ta d.tag.length tc, .slice ea d.fin.length ec] (.slice (some ⟨bb, bo, none⟩) d.tag.length bc) d o 0 (w3.heap.size + 1) [] 0 ((List.replicate d.tag.length (-1 : Int)).set x0 0) v l _) := ⟨by rw [walkA_zero]; exact hST, by rw [walkA_zero, ← hx0]; exact WkI.start (by omega) Ho.out HA.out, fun x hx => by cases hx⟩
  clear HST hST yr6 fr6 y56 yB6 yb6 y4 f4 y5 f5 hW4 hW5 hW6
  go_wp2
  refine wp_loop_ghost_k (fun q a W => ∃ (k gN : Nat) (nb : List Int) (v : Nat → Value) (l : Nat → List Int) (Ds : List Nat) (u7 u8 u9 u10 u11 u12 u13 u14 u15 u16 u17 u18 u19 u20 u21 u22 u23 u24 u25 u26 u27 u28 u29 u30 u31 u32 u33 u34 u35 u36 u37 u38 u39 u40 u41 u42 u43 u44 u45 u46 u47 u48 u49 u50 u51 u52 u53 u54 : Value), q = d.tag.length - k ∧ k ≤ (walkA (stN d) (anN d) k 0).length ∧ Going (stN d) (anN d) k ∧ Hid (WbI w #[.slice ca d.classes.length cc, .int .i64 d.width, .slice na d.next.length nc, .slice ta d.tag.length tc, .slice ea d.fin.length ec] (.slice (some ⟨bb, bo, none⟩) d.tag.length bc) d o k gN Ds 0 nb v l W) ∧ Hid (Ds.Nodup ∧ ∀ x ∈ Ds, w.heap.size ≤ x) ∧ a = { tmps := #[.agg #[.slice ca d.classes.length cc, .int .i64 d.width, .slice na d.next.length nc, .slice ta d.tag.length tc, .slice ea d.fin.length ec], .slice (some ⟨bb, bo, none⟩) d.tag.length bc, .pointer (some ⟨w.heap.size, 0, none⟩), .pointer (some ⟨w.heap.size + 1, 0, none⟩), .pointer (some ⟨w.heap.size + 1 + 1, 0, none⟩), .pointer (some ⟨w.heap.size + 1 + 1 + 1, 0, none⟩), .pointer (some ⟨gN, 0, none⟩), u7, u8, u9, u10, u11, u12, u13, u14, u15, u16, u17, u18, u19, u20, u21, u22, u23, u24, u25, u26, u27, u28, u29, u30, u31, u32, u33, u34, u35, u36, u37, u38, u39, u40, u41, u42, u43, u44, u45, u46, u47, u48, u49, u50, u51, u52, u53, u54, undef, undef], defers := Ds.map markD }) d.tag.length ?start ?round
  case start => exact ⟨0, _, _, v, l, [], _, _, _, _, _, _, _, _, _, _, _, _, _, _, _, _, _, _, _, _, _, _, _, _, _, _, _, _, _, _, _, _, _, _, _, _, _, _, _, _, _, _, _, _, _, _, _, _, rfl, Nat.zero_le _, fun _ h => absurd h (Nat.not_lt_zero _), HST2, ⟨List.nodup_nil, fun _ h => by cases h⟩, by rw [← Hs6.out]; rfl⟩
  case round =>
    rintro q a W ⟨k, gN, nb, v, l, Ds, u7, u8, u9, u10, u11, u12, u13, u14, u15, u16, u17, u18, u19, u20, u21, u22, u23, u24, u25, u26, u27, u28, u29, u30, u31, u32, u33, u34, u35, u36, u37, u38, u39, u40, u41, u42, u43, u44, u45, u46, u47, u48, u49, u50, u51, u52, u53, u54, hq, hkl, hG, HI, HDs, rfl⟩ J K hJ hK
    have hlen := HI.out.wk.len
    obtain ⟨g0, c0, e0, hc0⟩ := HI.out.st.fam.nats (i := 0) (by omega) HI.out.st.l0 (by have := (walkA_pre (stN d) (anN d) 0 k (Nat.zero_le _)); obtain ⟨t, ht⟩ := this; rw [ht, walkA_zero]; simp)
    have z4 : W.cell? ⟨w.heap.size + 1 + 1, 0, none⟩ = some (.slice (some ⟨g0, 0, none⟩) (walkA (stN d) (anN d) k 0).length c0) := by rw [cell_of_row _ _ _ _ _ _ HI.out.st.b4, ← e0]; rfl
    have f4 := frozen_of_row _ _ 0 _ _ HI.out.st.b4
    have f5 := frozen_of_row _ _ 0 _ _ HI.out.st.b5
    have zN : W.cell? ⟨gN, 0, none⟩ = some (.int .i64 (k : Int)) := by
      have hw := HI.out.st.fam.own 2 (by omega)
      rw [HI.out.st.l2] at hw
      obtain ⟨g, c, e, _, _, h⟩ := owns_some hw (by simp)
      rw [HI.out.st.v2] at e
      cases e
      exact h 0 (by simp)
    have He0 : Hid _ := e0
    clear e0 hc0
    by_cases hk : k < (walkA (stN d) (anN d) k 0).length
    · have hi1 : (k : Int) < ((walkA (stN d) (anN d) k 0).length : Int) := by omega
      go_wp2
      rename_i K2 hK2
      have HDlt : Hid (∀ x ∈ Ds, x < W.heap.size) := fun x hx => (Array.getElem?_eq_some_iff.1 (HI.out.mr x hx)).1
      have hWs := HI.out.st.be.size
      refine (wpIn_wide (n := 5)).1 ?_
      refine wpIn_seqN (encs := byteN) (N := 256) (gf := 30) (I := fun c W => ∃ nb v l, WbI w #[.slice ca d.classes.length cc, .int .i64 d.width, .slice na d.next.length nc, .slice ta d.tag.length tc, .slice ea d.fin.length ec] (.slice (some ⟨bb, bo, none⟩) d.tag.length bc) d o k gN Ds c nb v l W)
        (a₁ := fun c => { tmps := #[.agg #[.slice ca d.classes.length cc, .int .i64 d.width, .slice na d.next.length nc, .slice ta d.tag.length tc, .slice ea d.fin.length ec], .slice (some ⟨bb, bo, none⟩) d.tag.length bc, .pointer (some ⟨w.heap.size, 0, none⟩), .pointer (some ⟨w.heap.size + 1, 0, none⟩), .pointer (some ⟨w.heap.size + 1 + 1, 0, none⟩), .pointer (some ⟨w.heap.size + 1 + 1 + 1, 0, none⟩), .pointer (some ⟨gN, 0, none⟩), .int .i64 (c : Int), u8, u9, u10, u11, u12, u13, u14, u15, u16, u17, u18, u19, .int .i64 (k : Int), .slice (some ⟨g0, 0, none⟩) (walkA (stN d) (anN d) k 0).length c0, .int .i64 ((walkA (stN d) (anN d) k 0).length : Int), .bool true, u24, u25, .int .i64 (c : Int), u27, u28, u29, u30, u31, u32, u33, u34, u35, u36, u37, u38, u39, u40, u41, u42, u43, u44, u45, u46, u47, u48, u49, u50, u51, u52, u53, u54, undef, undef], defers := [] }) ?h1 ?hg ?eg ?hseq ?hps ?hI ?h0 ?assign ?body ?done
      case h1 => omega
      case hg => rfl
      case eg => exact enters_of Try.func30 (by kernel_rfl) rfl
      case hseq => exact allBytes_seq 4 (by omega)
      case hps => exact fun _ => rfl
      case hI => exact WbI.own w _ _ d o k gN Ds _ HDlt.out hWs
      case h0 => exact ⟨nb, v, l, HI.out⟩
      case assign =>
        intro l k W K hK
        unfold byteN
        gi_wp2
        exact hK
      case body =>
        clear hJ hK hK2 HI He0 z4 zN f4 f5 hlen HST2
        rintro l0 c W5 hl0 ⟨nb, v, l, h⟩ hc
        have hk5 : k < (walkA (stN d) (anN d) k c).length := Nat.lt_of_lt_of_le hk (walk_len _ _ _ (Nat.zero_le _))
        obtain ⟨hxn, hnew, hold⟩ := h.wk.next HF.out hk5 hc Ho.out HA.out rfl
        have hsn := h.wk.lt _ (getD_mem hk5)
        have hlen := h.wk.len
        have Hnew : Hid _ := hnew
        have Hold : Hid _ := hold
        have Hst : Hid (∀ X, Below w.heap.size w X → Calls Try.prog 31 #[.agg #[.slice ca d.classes.length cc, .int .i64 d.width, .slice na d.next.length nc, .slice ta d.tag.length tc, .slice ea d.fin.length ec], .int .i64 (((walkA (stN d) (anN d) k c).getD k 0 : Nat) : Int), .int .i64 (c : Int)] X fun e w' => e = .returned (.int .i64 ((stN d ((walkA (stN d) (anN d) k c).getD k 0) c : Nat) : Int)) ∧ Below X.heap.size X w') := fun X hX => by
          have := step_ok _ _ _ _ d (((walkA (stN d) (anN d) k c).getD k 0 : Nat) : Int) c X (Hs.out.below hX) HF.out (by omega) (by omega) hc
          rw [stepF_nat HF.out hsn hc] at this
          exact this
        have H : Hid _ := h
        have hbx := Ho.out _ hxn
        have cb : ∀ X, Below w.heap.size w X → X.cell? ⟨bb, bo + stN d ((walkA (stN d) (anN d) k c).getD k 0) c, none⟩ = some (.int .i64 ((o.getD (stN d ((walkA (stN d) (anN d) k c).getD k 0) c) 0 : Nat) : Int)) := fun X hX => (hX.cell (p := ⟨bb, bo + stN d ((walkA (stN d) (anN d) k c).getD k 0) c, none⟩) hbl).trans (Hbq.out _ hxn)
        have Hcb : Hid _ := cb
        clear hnew hold h cb
        obtain ⟨p0, r0, p5, r5, e0, e5, L, hc0, hc5⟩ := H.out.st.look (by omega) H.out.wk.nl (by omega)
        have He0 : Hid _ := e0
        have He5 : Hid _ := e5
        have z0 := hc0 k hk5
        have Hnl : Hid _ := H.out.wk.nl
        generalize hos : walkA (stN d) (anN d) k c = os at *
        have hosE : Hid _ := hos
        generalize hs0 : os.getD k 0 = s0 at *
        generalize hx : stN d s0 c = x at *
        generalize hbo2 : o.getD x 0 = bx at *
        obtain ⟨q0, q1, q2, q3, q4⟩ := row_five L.zD
        have zB := L.zB; have z4 := L.z4; have z5 := L.z5; have zN := L.zN
        have hi2 : (k : Int) < (os.length : Int) := by omega
        have hBW := H.out.st.be
        have hst : ∀ X, Below w.heap.size w X → CallsIn (Fence.wide.inRound l0) (5 - 1 - 1 - 1) Try.prog 31 #[.agg #[.slice ca d.classes.length cc, .int .i64 d.width, .slice na d.next.length nc, .slice ta d.tag.length tc, .slice ea d.fin.length ec], .int .i64 (s0 : Int), .int .i64 (c : Int)] X fun e w' => e = .returned (.int .i64 (x : Int)) ∧ Below X.heap.size X w' := fun X hX => CallsIn.inRound l0 (callsIn_wide.2 (Hst.out X hX))
        clear hc0 hc5 L hst e0 e5
        gi_wp2
        rename_i K3 hK3
        refine wpIn_region_pre 6 (fun w' => ∃ n, w' = W5.drewN n) hmix ⟨1, rfl⟩ (by rintro ⟨_, _, h⟩; exact h) (by decide) (by kernel_rfl) rfl ?_
        intro os hos
        simp only [List.take_succ_cons, List.take_zero] at hos
        subst hos
        repeat (go_big_quiet_step (fail))
        refine wpQuiet_nil ?_
        rintro w' ⟨nq, rfl⟩ r hr
        simp only [List.drop_succ_cons, List.drop_zero] at hr
        subst hr
        go_wp2_with (go_at_call 31; refine (Hst.out _ (below_drewN hBW nq)).mono ?_; rintro e w6 ⟨rfl, hb6⟩)
        have hb56 : Below W5.heap.size W5 w6 := (below_drewN (Below.refl _ _) nq).trans hb6
        have H6 := H.out.st.on hb56
        rw [hosE.out] at H6
        have hpos : 0 < os.length := by omega
        obtain ⟨p0', r0', p5', r5', f0, f5, L6, hc60, hc65⟩ := H6.look hpos Hnl.out (by omega)
        rw [He0.out] at f0
        cases f0
        rw [He5.out] at f5
        cases f5
        have zB6 := L6.zB; have z46 := L6.z4; have z56 := L6.z5; have f46 := L6.f4
        have zx := Hcb.out w6 H6.be
        obtain ⟨zn, fn⟩ := hc65 bx hbx
        have hi3 : (x : Int) < (d.tag.length : Int) := by omega
        have hi4 : (bx : Int) < (d.tag.length : Int) := by omega
        have HK56 : Hid (KeepsOthers W5 w6) := keeps_below hb56
        have HH6 : Hid _ := H6
        clear L6 hc60 hc65 hb56 hb6 H6 q0 q1 q2 q3 q4 zB z4 z5 zN z0
        generalize hnx : nb.getD bx 0 = nx at *
        by_cases hm1 : nx = -1
        · subst hm1
          gi_wp2
          refine wpIn_region_pre 8 (fun w' => ∃ n, w' = w6.drewN n) hmix ⟨1, rfl⟩ (by rintro ⟨_, _, h⟩; exact h) (by decide) (by kernel_rfl) rfl ?_
          intro os hos
          simp only [List.take_succ_cons, List.take_zero] at hos
          subst hos
          repeat (go_big_quiet_step (fail))
          refine wpQuiet_nil ?_
          rintro w' ⟨nq2, rfl⟩ r hr
          simp only [List.drop_succ_cons, List.drop_zero] at hr
          subst hr
          go_wp2
          gi_wp2
          refine wpIn_region_pre 8 (fun w' => ∃ n, w' = (w6.drewN nq2).drewN n) hmix ⟨1, rfl⟩ (by rintro ⟨_, _, h⟩; exact h) (by decide) (by kernel_rfl) rfl ?_
          intro os hos
          simp only [List.take_succ_cons, List.take_zero] at hos
          subst hos
          repeat (go_big_quiet_step (fail))
          refine wpQuiet_nil ?_
          rintro w' ⟨nq3, rfl⟩ r hr
          simp only [List.drop_succ_cons, List.drop_zero] at hr
          subst hr
          have hbq : Below w6.heap.size w6 (w6.drewN (nq2 + nq3)) := below_drewN (Below.refl _ _) _
          have H7 := (HH6.out.on hbq).put He5.out Hnl.out (j := bx) (os.length : Int)
          obtain ⟨X, hX⟩ : ∃ X, (w6.drewN (nq2 + nq3)).setCell ⟨p5, bx, none⟩ (.int .i64 (os.length : Int)) = X := ⟨_, rfl⟩
          rw [hX] at H7
          have HKX : Hid (KeepsOthers W5 X) := by rw [← hX]; exact (HK56.out.trans (keeps_below hbq)).trans (KeepsOthers.setCell _ _ _)
          obtain ⟨p0', r0', p5', r5', f0, f5, L7, _, _⟩ := H7.look hpos (by rw [List.length_set]; exact Hnl.out) (by omega)
          rw [He0.out] at f0
          cases f0
          rw [He5.out] at f5
          cases f5
          have z47 := L7.z4; have f47 := L7.f4
          obtain ⟨g8, c8, W8, hap, hF8, hg8⟩ := app_fam0 H7.fam 0 (by omega) (intsN os) H7.l0 os.length (intsN_len _) _ He0.out (x : Int) (by omega) (by have := H7.size; omega) 22
          obtain ⟨z48, f48, H8⟩ := H7.app hF8 hg8
          rw [He0.out] at z48
          have HH8 : Hid _ := H8
          have HK8 : Hid (KeepsOthers W5 (W8.setCell ⟨w.heap.size + 1 + 1, 0, none⟩ (.slice (some ⟨g8, 0, none⟩) (os.length + 1) c8))) := (HKX.out.trans (keeps_fam H7.fam (i := 0) (by omega) hg8)).trans (KeepsOthers.setCell _ _ _)
          clear H8 hF8 hg8 H7 L7 zB6 z46 z56 f46 zx
          go_wp2
          clear zn fn
          gi_wp2
          obtain ⟨hw1, hw2⟩ := Hnew.out (by simp)
          refine ⟨HK8.out.from _, nb.set bx (os.length : Int), upd v 0 (.slice (some ⟨g8, 0, none⟩) (os.length + 1) c8), updL (updL l 1 (nb.set bx (os.length : Int))) 0 (intsN os ++ [(x : Int)]), ⟨?_, ?_, fun y hy => ?_⟩⟩
          · rw [hw1]; exact HH8.out
          · rw [hw1]; exact hw2
          · exact HK8.out.same _ _ (H.out.mr y hy) rfl
        · gi_wp2
          refine wpIn_region_pre 8 (fun w' => ∃ n, w' = w6.drewN n) hmix ⟨1, rfl⟩ (by rintro ⟨_, _, h⟩; exact h) (by decide) (by kernel_rfl) rfl ?_
          intro os hos
          simp only [List.take_succ_cons, List.take_zero] at hos
          subst hos
          repeat (go_big_quiet_step (fail))
          refine wpQuiet_nil ?_
          rintro w' ⟨nq2, rfl⟩ r hr
          simp only [List.drop_succ_cons, List.drop_zero] at hr
          subst hr
          go_wp2
          have hmb : (nx == -1) = false := by simpa using hm1
          gi_wp2
          have hw1 := Hold.out hm1
          have hbq : Below w6.heap.size w6 (w6.drewN nq2) := below_drewN (Below.refl _ _) nq2
          refine ⟨((HK56.out.trans (keeps_below hbq)).from _), nb, v, l, ⟨?_, ?_, fun y hy => ?_⟩⟩
          · rw [hw1]; exact HH6.out.on hbq
          · rw [hw1, ← hosE.out]; exact H.out.wk
          · exact (HK56.out.trans (keeps_below hbq)).same _ _ (H.out.mr y hy) rfl
      case done =>
        clear HI He0 z4 zN f4 f5 hlen
        rintro D W5 hDe ⟨nb, v, l, H⟩ hD
        refine hK2 _ _ ?_
        have hWD : w.heap.size ≤ D := by omega
        have hnD : D ∉ Ds := fun hm => by have := HDlt.out D hm; omega
        have hlen2 : (walkA (stN d) (anN d) k 256).length = (walkA (stN d) (anN d) (k + 1) 0).length := by rw [walkA_row]
        obtain ⟨p0, r0, p5, r5, e0, e5, L, _, _⟩ := H.st.look (by have := walk_len (stN d) (anN d) k (Nat.zero_le 256); omega) H.wk.nl (by omega)
        have zN := L.zN
        have HH : Hid _ := H
        have hn3 := H.wk.len
        have HD : Hid _ := hD
        have hwl := walk_len (stN d) (anN d) k (Nat.zero_le 256)
        have hT := H.st.turn (k + 1)
        rw [show ((k + 1 : Nat) : Int) = (k : Int) + 1 by omega] at hT
        have HT : Hid _ := hT
        clear hT H L e0 e5 hD hDe
        have hal : Below W5.heap.size W5 (W5.alloc (.cells #[.int .i64 ((k : Int) + 1)] 3)) := (Below.refl _ _).alloc (Nat.le_refl _) _
        have Hal : Hid _ := hal
        clear hal
        go_wp2
        refine Handed.intro (d.tag.length - (k + 1)) (by omega) (hJ _ _ _ ⟨k + 1, _, nb, _, _, D :: Ds, _, _, _, _, _, _, _, _, _, _, _, _, _, _, _, _, _, _, _, _, _, _, _, _, _, _, _, _, _, _, _, _, _, _, _, _, _, _, _, _, _, _, _, _, _, _, _, _, rfl, by omega, hG.next hk, ⟨by rw [walkA_row]; exact HT.out, by rw [walkA_row]; exact HH.out.wk, fun y hy => ?_⟩, ⟨List.nodup_cons.2 ⟨hnD, HDs.out.1⟩, fun y hy => ?_⟩, rfl⟩)
        · have hq : W5.heap[y]? = some (.deferred (some [])) := by
            rcases List.mem_cons.1 hy with e | e
            · rw [e]; exact HD.out
            · exact HH.out.mr y e
          exact (Hal.out.block y (Array.getElem?_eq_some_iff.1 hq).1).trans hq
        · rcases List.mem_cons.1 hy with e | e
          · rw [e]; exact hWD
          · exact HDs.out.2 y e
    · have hi1 : ¬(k : Int) < ((walkA (stN d) (anN d) k 0).length : Int) := by omega
      have hkk : (walkA (stN d) (anN d) k 0).length = k := by omega
      obtain ⟨p0, r0, p5, r5, e0, e5, L, _, _⟩ := HI.out.st.look (by have := (walkA_pre (stN d) (anN d) 0 k (Nat.zero_le _)); obtain ⟨t, ht⟩ := this; rw [ht, walkA_zero]; simp) HI.out.wk.nl (by omega)
      rw [He0.out] at e0
      cases e0
      have z5 := L.z5
      have He5 : Hid _ := e5
      have Hkk : Hid _ := hkk
      clear L e5 hkk hJ
      go_wp2
      go_region
      have hb4 := HI.out.st.b4
      rw [He0.out] at hb4
      have hb5 := HI.out.st.b5
      rw [He5.out] at hb5
      have hsame : ∀ {b : Nat} {ob : Obj}, W.heap[b]? = some ob → (((W.setCell ⟨w.heap.size + 1 + 1, 0, none⟩ (.slice (some ⟨g0, 0, none⟩) (walkA (stN d) (anN d) k 0).length c0)).setCell ⟨w.heap.size + 1 + 1 + 1, 0, none⟩ (.slice (some ⟨p5, 0, none⟩) d.tag.length r5)).drew).heap[b]? = some ob := fun h => set_same (set_same hb4 hb5) (set_same hb4 h)
      have hbe : Below w.heap.size w (((W.setCell ⟨w.heap.size + 1 + 1, 0, none⟩ (.slice (some ⟨g0, 0, none⟩) (walkA (stN d) (anN d) k 0).length c0)).setCell ⟨w.heap.size + 1 + 1 + 1, 0, none⟩ (.slice (some ⟨p5, 0, none⟩) d.tag.length r5)).drew) := (((HI.out.st.be.setCell (p := ⟨w.heap.size + 1 + 1, 0, none⟩) (by show w.heap.size ≤ w.heap.size + 1 + 1; omega) _).setCell (p := ⟨w.heap.size + 1 + 1 + 1, 0, none⟩) (by show w.heap.size ≤ w.heap.size + 1 + 1 + 1; omega) _)).drew
      generalize ((W.setCell ⟨w.heap.size + 1 + 1, 0, none⟩ (.slice (some ⟨g0, 0, none⟩) (walkA (stN d) (anN d) k 0).length c0)).setCell ⟨w.heap.size + 1 + 1 + 1, 0, none⟩ (.slice (some ⟨p5, 0, none⟩) d.tag.length r5)).drew = Wf at *
      have Hsame : Hid (∀ {b : Nat} {ob : Obj}, W.heap[b]? = some ob → Wf.heap[b]? = some ob) := hsame
      have Hb4 : Hid _ := hb4
      have Hb5 : Hid _ := hb5
      have Hbe : Hid _ := hbe
      clear hsame hb4 hb5 hbe z4 z5 zN f4 f5
      go_wp2
      refine leaves_marks Ds Wf HDs.out.1 (fun x hx => Hsame.out (HI.out.mr x hx)) (fun W' hk1 hk2 hk3 hk4 hk5 => ?_)
      have hcell : ∀ (b : Nat) (cs : Array Value) (t : TypeId), W.heap[b]? = some (.cells cs t (0, 0)) → W'.heap[b]? = some (.cells cs t (0, 0)) := fun b cs t hb => by
        have h1 := Hsame.out hb
        refine (hk1 b (fun hm => ?_)).trans h1
        have h2 := Hsame.out (HI.out.mr b hm)
        rw [h1] at h2
        cases h2
      have hbW : Below w.heap.size w W' := Hbe.out.trans ⟨hk3, hk4, hk5, by omega, fun b hb => hk1 b (fun hm => by have := HDs.out.2 b hm; omega)⟩
      have HF2 := HI.out.st.cells hcell hbW
      have y4 : W'.cell? ⟨w.heap.size + 1 + 1, 0, none⟩ = some (.slice (some ⟨g0, 0, none⟩) (walkA (stN d) (anN d) k 0).length c0) := by rw [cell_of_row _ _ _ _ _ _ (hcell _ _ _ Hb4.out)]; rfl
      have y5 : W'.cell? ⟨w.heap.size + 1 + 1 + 1, 0, none⟩ = some (.slice (some ⟨p5, 0, none⟩) d.tag.length r5) := by rw [cell_of_row _ _ _ _ _ _ (hcell _ _ _ Hb5.out)]; rfl
      have hO0 := HF2.fam.own 0 (by omega)
      rw [HF2.l0, He0.out] at hO0
      have hO1 := HF2.fam.own 1 (by omega)
      rw [HF2.l1, He5.out] at hO1
      refine ⟨.tuple #[.slice (some ⟨g0, 0, none⟩) (walkA (stN d) (anN d) k 0).length c0, .slice (some ⟨p5, 0, none⟩) d.tag.length r5], by simp [results, Try.results29, go_sem, y4, y5], k, g0, c0, p5, r5, nb, hG, Hkk.out, by rw [Hkk.out], ?_, own_monoN hO1 (by omega), HI.out.wk, hbW⟩
      rw [Hkk.out] at hO0
      exact own_monoN hO0 (by omega)
end Go.Proofs.Ytgbdlgogccgciaa
