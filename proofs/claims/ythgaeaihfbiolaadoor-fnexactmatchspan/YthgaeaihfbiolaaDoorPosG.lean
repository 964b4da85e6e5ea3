import Derived.Test.YthgaeaihfbiolaaDoorPosF
namespace Go.Proofs.YthgaeaihfbiolaaDoor
open Go.RowKit

theorem cells_type {a b : Array Value} {t u : TypeId} {f g : Nat × Nat} (h : some (Obj.cells a t f) = some (Obj.cells b u g)) : t = u := by
  injection h with h
  injection h
theorem bru_ne {w : World} {nw k : Nat} {T : Nat → Nat} (hB : Bruijn w) (h : PosAt w nw k T) : k ≠ 0 := by
  rintro rfl
  have h1 := hB 0 (by omega)
  rw [cell_of_row _ _ _ _ _ _ h.row] at h1
  by_cases hn : 0 < nw
  · rw [wdRow_get _ _ hn] at h1; cases h1
  · rw [Array.getElem?_eq_none (by simp [wdRow]; omega)] at h1; cases h1
theorem bru_pos {w : World} (hB : Bruijn w) : 0 < w.heap.size := block_lt_of_cell (hB 0 (by omega))

/-- The tracks: their block, the row of follow, the rows in it. -/
structure TrkL (w : World) (n nw bt : Nat) (sv fv : Value) (fr : Nat → Nat) (F : Nat → Nat → Nat) : Prop where
  box : TrBox w bt nw sv fv
  fv : 0 < n → ∃ (gf cf : Nat) (cur : Array Value), fv = .slice (some ⟨gf, 0, none⟩) n cf ∧ w.heap[gf]? = some (.cells cur 48 (0, 0)) ∧ ∀ p, p < n → cur[p]? = some (.slice (some ⟨fr p, 0, none⟩) nw nw)
  fol : Fol w n nw fr F
  n64 : n ≤ 64 * nw
  nwl : nw ≤ 1000
  bru : Bruijn w
theorem TrkL.turn {S : Nat → Prop} {w W : World} {n nw bt : Nat} {sv fv : Value} {fr : Nat → Nat} {F F' : Nat → Nat → Nat} (h : TrkL w n nw bt sv fv fr F) (t : Touch S w W) (hS : ∀ k, k < w.heap.size → S k → ∃ m T, PosAt w m k T) (hf : Fol W n nw fr F') : TrkL W n nw bt sv fv fr F' := by
  have hkeep : ∀ (k : Nat) (o : Obj), w.heap[k]? = some o → (∀ m T, ¬PosAt w m k T) → W.heap[k]? = some o := fun k o hk hn => by
    have hlt := (Array.getElem?_eq_some_iff.1 hk).1
    refine (t.same k hlt (fun hs => ?_)).trans hk
    obtain ⟨m, T, hp⟩ := hS k hlt hs
    exact hn m T hp
  refine ⟨?_, fun hn => ?_, hf, h.n64, h.nwl, ?_⟩
  · exact hkeep _ _ h.box (fun m T hp => by have := hp.row; rw [h.box] at this; exact absurd (cells_type this) (by decide))
  · obtain ⟨gf, cf, cur, h1, h2, h3⟩ := h.fv hn
    exact ⟨gf, cf, cur, h1, hkeep _ _ h2 (fun m T hp => by have := hp.row; rw [h2] at this; exact absurd (cells_type this) (by decide)), h3⟩
  · refine h.bru.keep (t.same 0 (bru_pos h.bru) (fun hs => ?_))
    obtain ⟨m, T, hp⟩ := hS 0 (bru_pos h.bru) hs
    exact bru_ne h.bru hp rfl

theorem link_okL (n nw bt g1 c1 g2 c2 : Nat) (sv fv : Value) (fr : Nat → Nat) (F : Nat → Nat → Nat) (T1 T2 : Nat → Nat) (w : World) (h : TrkL w n nw bt sv fv fr F) (h1 : PosAt w nw g1 T1) (h2 : PosAt w nw g2 T2)
    (hd1 : ∀ p, p < n → fr p ≠ g1) (hd2 : ∀ p, p < n → fr p ≠ g2) (hm : ∀ p, p < 64 * nw → bitAt T1 p = true → p < n) :
    Calls Tryd.prog 56 #[.pointer (some ⟨bt, 0, none⟩), .slice (some ⟨g1, 0, none⟩) nw c1, .slice (some ⟨g2, 0, none⟩) nw c2] w fun e w' => e = .returned (.tuple #[]) ∧ TrkL w' n nw bt sv fv fr (fun p => if bitAt T1 p = true then orT (F p) T2 else F p) ∧ Touch (fun k => ∃ p, p < n ∧ k = fr p) w w' := by
  refine (link_ok n nw bt g1 c1 g2 c2 sv fv fr F T1 T2 w h.box (fun hn => ?_) h.fol h1 h2 hd1 hd2 (fun p hp => bru_ne h.bru (h.fol.rows p hp)) (fun p hp e => ?_) hm h.n64 h.nwl h.bru (bru_pos h.bru)).mono fun e w' hw => ⟨hw.1, h.turn hw.2.2 (fun k _ ⟨p, hp, e⟩ => ⟨nw, F p, e ▸ h.fol.rows p hp⟩) hw.2.1, hw.2.2⟩
  · obtain ⟨gf, cf, cur, k1, k2, k3⟩ := h.fv hn
    refine ⟨gf, cf, k1, (Array.getElem?_eq_some_iff.1 k2).1, fun p hp => by rw [cell_of_row _ _ _ _ _ _ k2]; exact k3 p hp, fun p hp e => ?_⟩
    have := (h.fol.rows p hp).row
    rw [e, k2] at this
    exact absurd (cells_type this) (by decide)
  · have := (h.fol.rows p hp).row
    rw [e, h.box] at this
    exact absurd (cells_type this) (by decide)

/-- One fragment behind another. -/
def SeqR2 (w : World) (n nw bt : Nat) (sv fv : Value) (fr : Nat → Nat) (F : Nat → Nat → Nat) (ga hl : Nat) (b : Bool) (A L : Nat → Nat) (e : Ending) (w' : World) : Prop :=
  e = .returned (.agg #[.bool b, .slice (some ⟨ga, 0, none⟩) nw nw, .slice (some ⟨hl, 0, none⟩) nw nw]) ∧ FrAt w' nw ga hl A L ∧ TrkL w' n nw bt sv fv fr F ∧ Touch (fun k => k = ga ∨ k = hl ∨ ∃ p, p < n ∧ k = fr p) w w'

theorem TrkL.join {w W : World} {n nw bt g : Nat} {sv fv : Value} {fr : Nat → Nat} {F : Nat → Nat → Nat} {T : Nat → Nat} (h : TrkL w n nw bt sv fv fr F) (hg : w.grownBy W (some g)) (hp : PosAt w nw g T) (hd : ∀ p, p < n → fr p ≠ g) : TrkL W n nw bt sv fv fr F :=
  h.turn ((Touch.refl (fun k => k = g) w).grown hg (fun k e => by cases e; exact .inl rfl)) (fun k _ e => ⟨nw, T, e ▸ hp⟩) ⟨fun p hp' => (h.fol.rows p hp').grown hg (by simpa using hd p hp'), h.fol.inj⟩
theorem TrkL.below {w W : World} {n nw bt : Nat} {sv fv : Value} {fr : Nat → Nat} {F : Nat → Nat → Nat} (h : TrkL w n nw bt sv fv fr F) (hb : Below w.heap.size w W) : TrkL W n nw bt sv fv fr F :=
  h.turn (Touch.of_below (S := fun _ => False) hb) (fun _ _ e => e.elim) ⟨fun p hp => (h.fol.rows p hp).below hb, h.fol.inj⟩
/-- A store into a block that is no part of it. -/
theorem TrkL.put {w : World} {n nw bt b o : Nat} {sv fv v : Value} {fr : Nat → Nat} {F : Nat → Nat → Nat} {cs : Array Value} {t : TypeId} (h : TrkL w n nw bt sv fv fr F) (hb : w.heap[b]? = some (.cells cs t (0, 0))) (h1 : t ≠ 78) (h2 : t ≠ 48) (h3 : t ≠ 116) (h4 : b ≠ 0) : TrkL (w.setCell ⟨b, o, none⟩ v) n nw bt sv fv fr F := by
  have hk : ∀ (k : Nat) (a : Array Value) (u : TypeId), w.heap[k]? = some (.cells a u (0, 0)) → t ≠ u → (w.setCell ⟨b, o, none⟩ v).heap[k]? = some (.cells a u (0, 0)) := fun k a u hk hne =>
    ((grown_put w b o v).block k (Array.getElem?_eq_some_iff.1 hk).1 (fun e => by cases e; rw [hb] at hk; exact hne (cells_type hk))).trans hk
  refine ⟨hk _ _ _ h.box h1, fun hn => ?_, ⟨fun p hp => ⟨hk _ _ _ (h.fol.rows p hp).row h3, (h.fol.rows p hp).lt⟩, h.fol.inj⟩, h.n64, h.nwl, h.bru.keep ((grown_put w b o v).block 0 (bru_pos h.bru) (fun e => h4 (by cases e; rfl)))⟩
  obtain ⟨gf, cf, cur, k1, k2, k3⟩ := h.fv hn
  exact ⟨gf, cf, cur, k1, hk _ _ _ k2 h2, k3⟩

/-- Where sequence stands. -/
structure SqS (w W : World) (n nw bt ga gl ha hl : Nat) (b c : Bool) (sv fv : Value) (fr : Nat → Nat) (F : Nat → Nat → Nat) (A L A' L' : Nat → Nat) : Prop where
  r4 : W.heap[w.heap.size]? = some (.cells #[.bool b, .slice (some ⟨ga, 0, none⟩) nw nw, .slice (some ⟨gl, 0, none⟩) nw nw] 50 (0, 0))
  r5 : W.heap[w.heap.size + 1]? = some (.cells #[.bool c, .slice (some ⟨ha, 0, none⟩) nw nw, .slice (some ⟨hl, 0, none⟩) nw nw] 50 (0, 0))
  r6 : W.heap[w.heap.size + 1 + 1]? = some (.cells #[.bool false, .slice none 0 0, .slice none 0 0] 50 (0, 0))
  fa : PosAt W nw ga A
  la : PosAt W nw gl L
  fb : PosAt W nw ha A'
  lb : PosAt W nw hl L'
  tk : TrkL W n nw bt sv fv fr F
  t : Touch (fun k => k = ga ∨ k = hl ∨ ∃ p, p < n ∧ k = fr p) w W
theorem SqS.join {w W W2 : World} {n nw bt ga gl ha hl : Nat} {b c : Bool} {sv fv : Value} {fr : Nat → Nat} {F : Nat → Nat → Nat} {A L A' L' A2 L2 : Nat → Nat} {g : Nat} (h : SqS w W n nw bt ga gl ha hl b c sv fv fr F A L A' L') (hg : W.grownBy W2 (some g)) (hl1 : ga < w.heap.size) (hl2 : hl < w.heap.size) (hg1 : g = ga ∨ g = hl)
    (ngl : g ≠ gl) (nha : g ≠ ha) (hfr : ∀ p, p < n → fr p ≠ g) (ha2 : PosAt W2 nw ga A2) (hl2' : PosAt W2 nw hl L2) : SqS w W2 n nw bt ga gl ha hl b c sv fv fr F A2 L A' L2 := by
  have hk : ∀ (k : Nat) (o : Obj), W.heap[k]? = some o → k ≠ g → W2.heap[k]? = some o := fun k o hk hne => (hg.block k (Array.getElem?_eq_some_iff.1 hk).1 (by simpa using hne)).trans hk
  have hgp : ∃ T, PosAt W nw g T := by rcases hg1 with e | e <;> subst e; exact ⟨_, h.fa⟩; exact ⟨_, h.lb⟩
  obtain ⟨T, hT⟩ := hgp
  exact ⟨hk _ _ h.r4 (by omega), hk _ _ h.r5 (by omega), hk _ _ h.r6 (by omega), ha2, h.la.grown hg (by simpa using ngl.symm), h.fb.grown hg (by simpa using nha.symm), hl2', h.tk.join hg hT hfr, h.t.grown hg (fun k e => by cases e; rcases hg1 with e | e; exact .inl (.inl e); exact .inl (.inr (.inl e)))⟩
theorem SqS.done {w W : World} {n nw bt ga gl ha hl : Nat} {b c : Bool} {sv fv : Value} {fr : Nat → Nat} {F : Nat → Nat → Nat} {A L A' L' : Nat → Nat} {v : Bool} (h : SqS w W n nw bt ga gl ha hl b c sv fv fr F A L A' L') (hl1 : ga < w.heap.size) (hl2 : hl < w.heap.size) (hne : ga ≠ hl) (v0 v1 v2 : Value) :
    SeqR2 w n nw bt sv fv fr F ga hl v A L' (.returned (.agg #[.bool v, .slice (some ⟨ga, 0, none⟩) nw nw, .slice (some ⟨hl, 0, none⟩) nw nw])) (((W.setCell ⟨w.heap.size + 1 + 1, 0, none⟩ v0).setCell ⟨w.heap.size + 1 + 1, 1, none⟩ v1).setCell ⟨w.heap.size + 1 + 1, 2, none⟩ v2) := by
  have hs : ∀ (X : World) (o : Nat) (u : Value) (cs : Array Value), X.heap[w.heap.size + 1 + 1]? = some (.cells cs 50 (0, 0)) → ∃ cs', (X.setCell ⟨w.heap.size + 1 + 1, o, none⟩ u).heap[w.heap.size + 1 + 1]? = some (.cells cs' 50 (0, 0)) := fun X o u cs hx => ⟨_, heap_setCell_same X _ o _ _ u hx⟩
  obtain ⟨c1, k1⟩ := hs W 0 v0 _ h.r6
  obtain ⟨c2, k2⟩ := hs _ 1 v1 _ k1
  have t0 := h.tk.put (o := 0) (v := v0) h.r6 (by decide) (by decide) (by decide) (by omega)
  have t1 := t0.put (o := 1) (v := v1) k1 (by decide) (by decide) (by decide) (by omega)
  have t2 := t1.put (o := 2) (v := v2) k2 (by decide) (by decide) (by decide) (by omega)
  exact ⟨rfl, ⟨((h.fa.put (by omega)).put (by omega)).put (by omega), ((h.lb.put (by omega)).put (by omega)).put (by omega), hne⟩, t2,
    ((h.t.grown (grown_put _ _ _ _) (fun g e => .inr (by cases e; omega))).grown (grown_put _ _ _ _) (fun g e => .inr (by cases e; omega))).grown (grown_put _ _ _ _) (fun g e => .inr (by cases e; omega))⟩

set_option maxRecDepth 100000 in
set_option maxHeartbeats 4000000 in
theorem sequence_ok (n nw bt ga gl ha hl : Nat) (b c : Bool) (sv fv : Value) (fr : Nat → Nat) (F : Nat → Nat → Nat) (A L A' L' : Nat → Nat) (w : World) (h : TrkL w n nw bt sv fv fr F) (h1 : FrAt w nw ga gl A L) (h2 : FrAt w nw ha hl A' L')
    (d1 : ga ≠ ha) (d2 : ga ≠ hl) (d4 : gl ≠ hl) (e1 : ∀ p, p < n → fr p ≠ ga) (e2 : ∀ p, p < n → fr p ≠ gl) (e3 : ∀ p, p < n → fr p ≠ ha) (e4 : ∀ p, p < n → fr p ≠ hl) (hm : ∀ p, p < 64 * nw → bitAt L p = true → p < n) :
    Calls Tryd.prog 38 #[.pointer (some ⟨bt, 0, none⟩), .agg #[.bool b, .slice (some ⟨ga, 0, none⟩) nw nw, .slice (some ⟨gl, 0, none⟩) nw nw], .agg #[.bool c, .slice (some ⟨ha, 0, none⟩) nw nw, .slice (some ⟨hl, 0, none⟩) nw nw]] w fun e w' =>
      SeqR2 w n nw bt sv fv fr (fun p => if bitAt L p = true then orT (F p) A' else F p) ga hl (b && c) (if b = true then orT A A' else A) (if c = true then orT L' L else L') e w' := by
  obtain ⟨F2, hF2⟩ : ∃ F2, (fun p => if bitAt L p = true then orT (F p) A' else F p) = F2 := ⟨_, rfl⟩
  rw [hF2]
  have hnw := h.nwl
  obtain ⟨W0, hW0⟩ : ∃ W0, ((w.alloc (.cells #[.bool b, .slice (some ⟨ga, 0, none⟩) nw nw, .slice (some ⟨gl, 0, none⟩) nw nw] 50)).alloc (.cells #[.bool c, .slice (some ⟨ha, 0, none⟩) nw nw, .slice (some ⟨hl, 0, none⟩) nw nw] 50)).alloc (.cells #[.bool false, .slice none 0 0, .slice none 0 0] 50) = W0 := ⟨_, rfl⟩
  have hb0 : Below w.heap.size w W0 := by rw [← hW0]; exact (((Below.refl _ _).alloc (Nat.le_refl _) _).alloc (by simp) _).alloc (by simp; omega) _
  have x4 : W0.heap[w.heap.size]? = some (.cells #[.bool b, .slice (some ⟨ga, 0, none⟩) nw nw, .slice (some ⟨gl, 0, none⟩) nw nw] 50 (0, 0)) := by rw [← hW0]; exact row_alloc (row_alloc (heap_alloc_new _ _))
  have x5 : W0.heap[w.heap.size + 1]? = some (.cells #[.bool c, .slice (some ⟨ha, 0, none⟩) nw nw, .slice (some ⟨hl, 0, none⟩) nw nw] 50 (0, 0)) := by
    rw [← hW0]
    refine row_alloc ?_
    have := heap_alloc_new (w.alloc (.cells #[.bool b, .slice (some ⟨ga, 0, none⟩) nw nw, .slice (some ⟨gl, 0, none⟩) nw nw] 50)) (.cells #[.bool c, .slice (some ⟨ha, 0, none⟩) nw nw, .slice (some ⟨hl, 0, none⟩) nw nw] 50)
    simpa using this
  have x6 : W0.heap[w.heap.size + 1 + 1]? = some (.cells #[.bool false, .slice none 0 0, .slice none 0 0] 50 (0, 0)) := by
    rw [← hW0]
    have := heap_alloc_new ((w.alloc (.cells #[.bool b, .slice (some ⟨ga, 0, none⟩) nw nw, .slice (some ⟨gl, 0, none⟩) nw nw] 50)).alloc (.cells #[.bool c, .slice (some ⟨ha, 0, none⟩) nw nw, .slice (some ⟨hl, 0, none⟩) nw nw] 50)) (.cells #[.bool false, .slice none 0 0, .slice none 0 0] 50)
    simpa using this
  have l1 := h1.fi.glt
  have l2 := h1.la.glt
  have l3 := h2.fi.glt
  have l4 := h2.la.glt
  have hfl : ∀ p, p < n → fr p < w.heap.size := fun p hp => (h.fol.rows p hp).glt
  have hsz : W0.heap.size = w.heap.size + 1 + 1 + 1 := by rw [← hW0]; simp
  have hpw := bru_pos h.bru
  have y := h.below hb0
  have y1 := h1.below hb0
  have y2 := h2.below hb0
  have hlk := link_okL n nw bt gl nw ha nw sv fv fr F L A' W0 y y1.la y2.fi e2 e3 hm
  rw [hF2] at hlk
  clear hF2
  have T0 : Touch (fun k => k = ga ∨ k = hl ∨ ∃ p, p < n ∧ k = fr p) w W0 := Touch.of_below hb0
  clear hb0
  obtain ⟨a0, a1, a2, -, -, -⟩ := row_threeF x4
  obtain ⟨b0, b1, b2, -, -, -⟩ := row_threeF x5
  go_enter Tryd.func38, Tryd.ntmps38
  go_wp2_with fail
  clear a0 a1 a2 b0 b1 b2 hW0
  refine hlk.mono ?_
  rintro e w1 ⟨rfl, q, t1⟩
  have hn : ∀ k, w.heap.size ≤ k → ¬∃ p, p < n ∧ k = fr p := fun k hk ⟨p, hp, e⟩ => by have := hfl p hp; omega
  have u4 := (t1.same (w.heap.size) (by omega) (hn _ (by omega))).trans x4
  have u5 := (t1.same (w.heap.size + 1) (by omega) (hn _ (by omega))).trans x5
  have u6 := (t1.same (w.heap.size + 1 + 1) (by omega) (hn _ (by omega))).trans x6
  have z1 := y1.fi.touch t1 (fun ⟨p, hp, e⟩ => e1 p hp e.symm)
  have z2 := y1.la.touch t1 (fun ⟨p, hp, e⟩ => e2 p hp e.symm)
  have z3 := y2.fi.touch t1 (fun ⟨p, hp, e⟩ => e3 p hp e.symm)
  have z4 := y2.la.touch t1 (fun ⟨p, hp, e⟩ => e4 p hp e.symm)
  have T1 := T0.trans (t1.mono (fun k _ hk => .inr (.inr hk)))
  have s1 := t1.size
  have hga := h1.ne
  have hha := h2.ne
  clear hlk x4 x5 x6 y y1 y2 T0 t1 h h1 h2
  have hS : SqS w w1 n nw bt ga gl ha hl b c sv fv fr F2 A L A' L' := ⟨u4, u5, u6, z1, z2, z3, z4, q, T1⟩
  clear u4 u5 u6 z1 z2 z3 z4 q T1
  have hfin : ∀ (W : World) (A2 L2 : Nat → Nat), SqS w W n nw bt ga gl ha hl b c sv fv fr F2 A2 L A' L2 → ∃ c0 c1 c2, W.cell? ⟨w.heap.size, 0, none⟩ = some (.bool b) ∧ W.cell? ⟨w.heap.size, 1, none⟩ = some (.slice (some ⟨ga, 0, none⟩) nw nw) ∧ W.cell? ⟨w.heap.size + 1, 0, none⟩ = some (.bool c) ∧ W.cell? ⟨w.heap.size + 1, 2, none⟩ = some (.slice (some ⟨hl, 0, none⟩) nw nw) ∧ W.cell? ⟨w.heap.size, 2, none⟩ = some (.slice (some ⟨gl, 0, none⟩) nw nw) ∧ W.cell? ⟨w.heap.size + 1, 1, none⟩ = some (.slice (some ⟨ha, 0, none⟩) nw nw) ∧ W.cell? ⟨w.heap.size + 1 + 1, 0, none⟩ = some c0 ∧ W.cell? ⟨w.heap.size + 1 + 1, 1, none⟩ = some c1 ∧ W.cell? ⟨w.heap.size + 1 + 1, 2, none⟩ = some c2 ∧ W.frozen? ⟨w.heap.size + 1 + 1, 0, none⟩ = false ∧ W.frozen? ⟨w.heap.size + 1 + 1, 1, none⟩ = false ∧ W.frozen? ⟨w.heap.size + 1 + 1, 2, none⟩ = false := fun W A2 L2 hq => by
    obtain ⟨a0, a1, a2, -, -, -⟩ := row_threeF hq.r4
    obtain ⟨b0, b1, b2, -, -, -⟩ := row_threeF hq.r5
    obtain ⟨k0, k1, k2, f0, f1, f2⟩ := row_threeF hq.r6
    exact ⟨_, _, _, a0, a1, b0, b2, a2, b1, k0, k1, k2, f0, f1, f2⟩
  cases b <;> cases c
  · obtain ⟨p0, p1, p2, a0, a1, b0, b2, a2, b1, k0, k1, k2, f0, f1, f2⟩ := hfin _ _ _ hS
    go_wp2
    refine bodyPost_ret (v := .agg #[.bool false, .slice (some ⟨ga, 0, none⟩) nw nw, .slice (some ⟨hl, 0, none⟩) nw nw]) (by simp [results, Tryd.results38, go_sem, k0, k1, k2]) rfl ?_
    exact hS.done l1 l4 d2 _ _ _
  · obtain ⟨p0, p1, p2, a0, a1, b0, b2, a2, b1, k0, k1, k2, f0, f1, f2⟩ := hfin _ _ _ hS
    have hj := join_ok nw hl gl nw nw L' L w1 hS.lb hS.la d4.symm hnw
    go_wp2_with fail
    refine hj.mono ?_
    rintro e w2 ⟨rfl, hp2, hg2⟩
    have hS2 := hS.join (A2 := A) hg2 l1 l4 (.inr rfl) d4.symm hha.symm e4 (hS.fa.grown hg2 (by simpa using d2)) hp2
    clear a0 a1 b0 b2 a2 b1 k0 k1 k2 f0 f1 f2
    obtain ⟨p0, p1, p2, a0, a1, b0, b2, a2, b1, k0, k1, k2, f0, f1, f2⟩ := hfin _ _ _ hS2
    go_wp2
    refine bodyPost_ret (v := .agg #[.bool false, .slice (some ⟨ga, 0, none⟩) nw nw, .slice (some ⟨hl, 0, none⟩) nw nw]) (by simp [results, Tryd.results38, go_sem, k0, k1, k2]) rfl ?_
    exact hS2.done l1 l4 d2 _ _ _
  · obtain ⟨p0, p1, p2, a0, a1, b0, b2, a2, b1, k0, k1, k2, f0, f1, f2⟩ := hfin _ _ _ hS
    have hj := join_ok nw ga ha nw nw A A' w1 hS.fa hS.fb d1 hnw
    go_wp2_with fail
    refine hj.mono ?_
    rintro e w2 ⟨rfl, hp2, hg2⟩
    have hS2 := hS.join (L2 := L') hg2 l1 l4 (.inl rfl) hga d1 e1 hp2 (hS.lb.grown hg2 (by simpa using d2.symm))
    clear a0 a1 b0 b2 a2 b1 k0 k1 k2 f0 f1 f2
    obtain ⟨p0, p1, p2, a0, a1, b0, b2, a2, b1, k0, k1, k2, f0, f1, f2⟩ := hfin _ _ _ hS2
    go_wp2
    refine bodyPost_ret (v := .agg #[.bool false, .slice (some ⟨ga, 0, none⟩) nw nw, .slice (some ⟨hl, 0, none⟩) nw nw]) (by simp [results, Tryd.results38, go_sem, k0, k1, k2]) rfl ?_
    exact hS2.done l1 l4 d2 _ _ _
  · obtain ⟨p0, p1, p2, a0, a1, b0, b2, a2, b1, k0, k1, k2, f0, f1, f2⟩ := hfin _ _ _ hS
    have hj := join_ok nw ga ha nw nw A A' w1 hS.fa hS.fb d1 hnw
    go_wp2_with fail
    refine hj.mono ?_
    rintro e w2 ⟨rfl, hp2, hg2⟩
    have hS2 := hS.join (L2 := L') hg2 l1 l4 (.inl rfl) hga d1 e1 hp2 (hS.lb.grown hg2 (by simpa using d2.symm))
    clear a0 a1 b0 b2 a2 b1 k0 k1 k2 f0 f1 f2
    obtain ⟨p0, p1, p2, a0, a1, b0, b2, a2, b1, k0, k1, k2, f0, f1, f2⟩ := hfin _ _ _ hS2
    have hj2 := join_ok nw hl gl nw nw L' L w2 hS2.lb hS2.la d4.symm hnw
    go_wp2_with fail
    refine hj2.mono ?_
    rintro e w3 ⟨rfl, hp3, hg3⟩
    have hS3 := hS2.join (A2 := orT A A') hg3 l1 l4 (.inr rfl) d4.symm hha.symm e4 (hS2.fa.grown hg3 (by simpa using d2)) hp3
    clear a0 a1 b0 b2 a2 b1 k0 k1 k2 f0 f1 f2
    obtain ⟨p0, p1, p2, a0, a1, b0, b2, a2, b1, k0, k1, k2, f0, f1, f2⟩ := hfin _ _ _ hS3
    go_wp2
    refine bodyPost_ret (v := .agg #[.bool true, .slice (some ⟨ga, 0, none⟩) nw nw, .slice (some ⟨hl, 0, none⟩) nw nw]) (by simp [results, Tryd.results38, go_sem, k0, k1, k2]) rfl ?_
    exact hS3.done l1 l4 d2 _ _ _
end Go.Proofs.YthgaeaihfbiolaaDoor
