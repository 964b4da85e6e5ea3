import Derived.Test.YthgaeaihfbiolaaDoorPosC
namespace Go.Proofs.YthgaeaihfbiolaaDoor
open Go.RowKit

theorem PosAt.put {w : World} {nw g b o : Nat} {T : Nat → Nat} {v : Value} (h : PosAt w nw g T) (hne : g ≠ b) : PosAt (w.setCell ⟨b, o, none⟩ v) nw g T := h.grown (grown_put w b o v) (by simpa using hne)
/-- The rows of a fragment. -/
structure FrAt (w : World) (nw ga gl : Nat) (A L : Nat → Nat) : Prop where
  fi : PosAt w nw ga A
  la : PosAt w nw gl L
  ne : ga ≠ gl
theorem FrAt.below {w w' : World} {nw ga gl : Nat} {A L : Nat → Nat} (h : FrAt w nw ga gl A L) (hb : Below w.heap.size w w') : FrAt w' nw ga gl A L := ⟨h.fi.below hb, h.la.below hb, h.ne⟩

def BareR (w : World) (nw : Nat) (b : Bool) (e : Ending) (w' : World) : Prop :=
  ∃ ga gl : Nat, e = .returned (.agg #[.bool b, .slice (some ⟨ga, 0, none⟩) nw nw, .slice (some ⟨gl, 0, none⟩) nw nw]) ∧ w.heap.size ≤ ga ∧ w.heap.size ≤ gl ∧ FrAt w' nw ga gl zeroT zeroT ∧ Below w.heap.size w w'

theorem row_threeF {w : World} {g : Nat} {a b c : Value} {t : TypeId} (h : w.heap[g]? = some (.cells #[a, b, c] t (0, 0))) : w.cell? ⟨g, 0, none⟩ = some a ∧ w.cell? ⟨g, 1, none⟩ = some b ∧ w.cell? ⟨g, 2, none⟩ = some c ∧ w.frozen? ⟨g, 0, none⟩ = false ∧ w.frozen? ⟨g, 1, none⟩ = false ∧ w.frozen? ⟨g, 2, none⟩ = false := by
  have : ∀ o, w.cell? ⟨g, o, none⟩ = #[a, b, c][o]? := fun _ => cell_of_row _ _ _ _ _ _ h
  exact ⟨this 0, this 1, this 2, frozen_of_row _ _ 0 _ _ h, frozen_of_row _ _ 1 _ _ h, frozen_of_row _ _ 2 _ _ h⟩

set_option maxRecDepth 100000 in
set_option maxHeartbeats 1000000 in
theorem bare_ok (nw bt : Nat) (b : Bool) (sv fv : Value) (w : World) (hbox : TrBox w bt nw sv fv) (hnw : nw ≤ 1000) :
    Calls Tryd.prog 17 #[.pointer (some ⟨bt, 0, none⟩), .bool b] w fun e w' => BareR w nw b e w' := by
  have hbt : bt < w.heap.size := (Array.getElem?_eq_some_iff.1 hbox).1
  have hb0 : Below w.heap.size w (w.alloc (.cells #[.bool false, .slice none 0 0, .slice none 0 0] 50)) := (Below.refl _ _).alloc (Nat.le_refl _) _
  have x0 : (w.alloc (.cells #[.bool false, .slice none 0 0, .slice none 0 0] 50)).heap[w.heap.size]? = some (.cells #[.bool false, .slice none 0 0, .slice none 0 0] 50 (0, 0)) := heap_alloc_new _ _
  have hn1 := none_ok nw bt sv fv _ ((hb0.block bt hbt).trans hbox) hnw
  go_enter Tryd.func17, Tryd.ntmps17
  go_wp2_with fail
  refine hn1.mono ?_
  rintro e w1 ⟨rfl, hp1, hg1⟩
  have hb1 : Below w.heap.size w w1 := hb0.grown hg1 (by simp) (fun k e => by cases e)
  have x1 := (hg1.block _ (by simp) (by simp)).trans x0
  have hn2 := none_ok nw bt sv fv w1 ((hb1.block bt hbt).trans hbox) hnw
  simp only [World.size_alloc] at hp1
  obtain ⟨ga, hga⟩ : ∃ ga, ga = w.heap.size + 1 := ⟨_, rfl⟩
  rw [← hga] at hp1
  have hgal : w.heap.size < ga := by omega
  go_wp2_with fail
  refine hn2.mono ?_
  rintro e w2 ⟨rfl, hp2, hg2⟩
  have hb2 : Below w.heap.size w w2 := hb1.grown hg2 hb1.size (fun k e => by cases e)
  have x2 := (hg2.block _ (Nat.lt_of_lt_of_le (by simp) hg1.size) (by simp)).trans x1
  have hp1' := hp1.grown hg2 (by simp)
  obtain ⟨c0, c1, c2, f0, f1, f2⟩ := row_threeF x2
  have hl1 := hp1.glt
  have hl2 := hp2.glt
  clear x0 x1 hn1 hn2 hg1 hg2 hb0 hp1
  go_wp2
  subst hga
  refine bodyPost_ret (v := .agg #[.bool b, .slice (some ⟨w.heap.size + 1, 0, none⟩) nw nw, .slice (some ⟨w1.heap.size, 0, none⟩) nw nw]) (by simp [results, Tryd.results17, go_sem, c0, c1, c2]) rfl ⟨_, _, rfl, by omega, by omega, ⟨((hp1'.put (by omega)).put (by omega)).put (by omega), ((hp2.put (by omega)).put (by omega)).put (by omega), by omega⟩, ?_⟩
  exact ((hb2.setCell (p := ⟨w.heap.size, 0, none⟩) (by simp) _).setCell (p := ⟨w.heap.size, 1, none⟩) (by simp) _).setCell (p := ⟨w.heap.size, 2, none⟩) (by simp) _

/-- Either of two fragments. -/
def EithR (w : World) (nw ga gl : Nat) (b : Bool) (A L : Nat → Nat) (e : Ending) (w' : World) : Prop :=
  e = .returned (.agg #[.bool b, .slice (some ⟨ga, 0, none⟩) nw nw, .slice (some ⟨gl, 0, none⟩) nw nw]) ∧ FrAt w' nw ga gl A L ∧ Touch (fun k => k = ga ∨ k = gl) w w'

set_option maxRecDepth 100000 in
set_option maxHeartbeats 2000000 in
theorem either_ok (nw bt ga gl ha hl : Nat) (b c : Bool) (A L A' L' : Nat → Nat) (w : World) (h1 : FrAt w nw ga gl A L) (h2 : FrAt w nw ha hl A' L') (d1 : ga ≠ ha) (d2 : ga ≠ hl) (d4 : gl ≠ hl) (hnw : nw ≤ 1000) :
    Calls Tryd.prog 20 #[.pointer (some ⟨bt, 0, none⟩), .agg #[.bool b, .slice (some ⟨ga, 0, none⟩) nw nw, .slice (some ⟨gl, 0, none⟩) nw nw], .agg #[.bool c, .slice (some ⟨ha, 0, none⟩) nw nw, .slice (some ⟨hl, 0, none⟩) nw nw]] w fun e w' => EithR w nw ga gl (b || c) (orT A A') (orT L L') e w' := by
  obtain ⟨W0, hW0⟩ : ∃ W0, ((w.alloc (.cells #[.bool b, .slice (some ⟨ga, 0, none⟩) nw nw, .slice (some ⟨gl, 0, none⟩) nw nw] 50)).alloc (.cells #[.bool c, .slice (some ⟨ha, 0, none⟩) nw nw, .slice (some ⟨hl, 0, none⟩) nw nw] 50)).alloc (.cells #[.bool false, .slice none 0 0, .slice none 0 0] 50) = W0 := ⟨_, rfl⟩
  have hb0 : Below w.heap.size w W0 := by rw [← hW0]; exact (((Below.refl _ _).alloc (Nat.le_refl _) _).alloc (by simp) _).alloc (by simp; omega) _
  have x4 : W0.heap[w.heap.size]? = some (.cells #[.bool b, .slice (some ⟨ga, 0, none⟩) nw nw, .slice (some ⟨gl, 0, none⟩) nw nw] 50 (0, 0)) := by rw [← hW0]; exact row_alloc (row_alloc (heap_alloc_new _ _))
  have x5 : W0.heap[w.heap.size + 1]? = some (.cells #[.bool c, .slice (some ⟨ha, 0, none⟩) nw nw, .slice (some ⟨hl, 0, none⟩) nw nw] 50 (0, 0)) := by
    rw [← hW0]
    refine row_alloc ?_
    have := heap_alloc_new (w.alloc (.cells #[.bool b, .slice (some ⟨ga, 0, none⟩) nw nw, .slice (some ⟨gl, 0, none⟩) nw nw] 50)) (.cells #[.bool c, .slice (some ⟨ha, 0, none⟩) nw nw, .slice (some ⟨hl, 0, none⟩) nw nw] 50)
    simpa using this
  have x6 : W0.heap[w.heap.size + 1 + 1]? = some (.cells #[.bool false, .slice none 0 0, .slice none 0 0] 50 (0, 0)) := by
    rw [← hW0]
    have := heap_alloc_new ((w.alloc (.cells #[.bool b, .slice (some ⟨ga, 0, none⟩) nw nw, .slice (some ⟨gl, 0, none⟩) nw nw] 50)).alloc (.cells #[.bool c, .slice (some ⟨ha, 0, none⟩) nw nw, .slice (some ⟨hl, 0, none⟩) nw nw] 50)) (.cells #[.bool false, .slice none 0 0, .slice none 0 0] 50)
    simpa using this
  have l1 := h1.fi.glt
  have l2 := h1.la.glt
  have l3 := h2.fi.glt
  have l4 := h2.la.glt
  have hne := h1.ne
  have y1 := h1.below hb0
  have y2 := h2.below hb0
  have hj1 := join_ok nw ga ha nw nw A A' W0 y1.fi y2.fi d1 hnw
  have hsz : W0.heap.size = w.heap.size + 1 + 1 + 1 := by rw [← hW0]; simp
  obtain ⟨a0, a1, a2, -, -, -⟩ := row_threeF x4
  obtain ⟨b0, b1, b2, -, -, -⟩ := row_threeF x5
  go_enter Tryd.func20, Tryd.ntmps20
  go_wp2_with fail
  clear a0 a1 a2 b0 b1 b2 hW0
  refine hj1.mono ?_
  rintro e w1 ⟨rfl, hp1, hg1⟩
  have hs1 := hg1.size
  have u4 := (hg1.block (w.heap.size) (by omega) (by simp; omega)).trans x4
  have u5 := (hg1.block (w.heap.size + 1) (by omega) (by simp; omega)).trans x5
  have u6 := (hg1.block (w.heap.size + 1 + 1) (by omega) (by simp; omega)).trans x6
  have z1 := y1.la.grown hg1 (by simpa using hne.symm)
  have z2 := y2.la.grown hg1 (by simpa using d2.symm)
  have hj2 := join_ok nw gl hl nw nw L L' w1 z1 z2 d4 hnw
  obtain ⟨a0, a1, a2, -, -, -⟩ := row_threeF u4
  obtain ⟨b0, b1, b2, -, -, -⟩ := row_threeF u5
  go_wp2_with fail
  clear a0 a1 a2 b0 b1 b2
  refine hj2.mono ?_
  rintro e w2 ⟨rfl, hp2, hg2⟩
  have hs2 := hg2.size
  have v4 := (hg2.block (w.heap.size) (by omega) (by simp; omega)).trans u4
  have v5 := (hg2.block (w.heap.size + 1) (by omega) (by simp; omega)).trans u5
  have v6 := (hg2.block (w.heap.size + 1 + 1) (by omega) (by simp; omega)).trans u6
  have hpa := hp1.grown hg2 (by simpa using hne)
  have ht : Touch (fun k => k = ga ∨ k = gl) w w2 := ((Touch.of_below hb0).trans ((Touch.refl _ W0).grown hg1 (fun g e => by cases e; exact .inl (.inl rfl)))).grown hg2 (fun g e => by cases e; exact .inl (.inr rfl))
  obtain ⟨a0, a1, a2, -, -, -⟩ := row_threeF v4
  obtain ⟨b0, b1, b2, -, -, -⟩ := row_threeF v5
  obtain ⟨e0, e1, e2, f0, f1, f2⟩ := row_threeF v6
  clear hj1 hj2 hg1 hg2 x4 x5 x6 u4 u5 u6 v4 v5 v6 y1 y2 z1 z2 hp1 hb0
  cases b
  all_goals
    go_wp2
    refine bodyPost_ret (v := .agg #[.bool _, .slice (some ⟨ga, 0, none⟩) nw nw, .slice (some ⟨gl, 0, none⟩) nw nw]) (by simp [results, Tryd.results20, go_sem, e0, e1, e2]) rfl ⟨rfl, ⟨((hpa.put (by omega)).put (by omega)).put (by omega), ((hp2.put (by omega)).put (by omega)).put (by omega), hne⟩, ?_⟩
    exact ((ht.grown (grown_put _ _ _ _) (fun g e => .inr (by cases e; omega))).grown (grown_put _ _ _ _) (fun g e => .inr (by cases e; omega))).grown (grown_put _ _ _ _) (fun g e => .inr (by cases e; omega))
end Go.Proofs.YthgaeaihfbiolaaDoor
