import Derived.Test.YtgbdlgogccgciaaMinRMiZ
import Derived.Test.YtgbdlgogccgciaaMarkMarkD
import Derived.Test.YtgbdlgogccgciaaDfaOwnDfaMark
import Derived.Deep.RegionHeld3
import Derived.Deep.DrawnRows
import Derived.Deep.Cut
namespace Go.Proofs.Ytgbdlgogccgciaa
open Go.RowKit
attribute [local go_sem ↓] Go.wp_at_zero Go.wp_at_succ

theorem owns_since {B B' : Nat} {W W' : World} {v : Value} {xs : List Int} (h : Owns B W v xs) (hB : B' ≤ B) (hb : Below W.heap.size W W') : Owns B' W' v xs := by
  have h1 := owns_keep (W' := W') h fun b hbb => hb.block b (owns_block h hbb).2
  exact ⟨h1.1, h1.2.elim .inl fun ⟨g, cap, cur, hv, hg, r⟩ => .inr ⟨g, cap, cur, hv, by omega, r⟩⟩
/- WHERE THE LAW STANDS: its argument's block, the specification's table. -/
structure PL (w : World) (C : Array Value) (T0 : Nat) (A0 : Array Value) (v0 : Nat → Value) (l : Nat → List Int) (W : World) : Prop where
  below : Below w.heap.size w W
  arg : W.heap[w.heap.size]? = some (.cells C 24 (0, 0))
  tab : W.heap[T0]? = some (.cells (A0) 26 (0, 0))
  fam : Fam w.heap.size 4 W v0 l
  low : ∀ i, i < 4 → ∀ b, (v0 i).ownBlock = some b → b < T0
  over : w.heap.size < T0
theorem PL.keep {w W W' : World} {C A0 : Array Value} {T0 : Nat} {v0 : Nat → Value} {l : Nat → List Int} (h : PL w C T0 A0 v0 l W) {B : Nat} (hB : T0 < B) (hb : Below B W W') : PL w C T0 A0 v0 l W' := by
  have ho := h.over
  refine ⟨h.below.trans (hb.mono (by omega)), (hb.block _ (by omega)).trans h.arg, (hb.block _ hB).trans h.tab, h.fam.keepO fun i hi b hbb => hb.block b (by have := h.low i hi b hbb; omega), h.low, ho⟩
theorem PL.grow {w W W' : World} {C A0 : Array Value} {T0 : Nat} {v0 : Nat → Value} {l : Nat → List Int} (h : PL w C T0 A0 v0 l W) (hb : Below W.heap.size W W') : PL w C T0 A0 v0 l W' := h.keep (row_lt h.tab) hb
/- .. and the automaton that was handed in, the code's table. -/
structure PX (w : World) (C : Array Value) (T0 : Nat) (A0 : Array Value) (v0 : Nat → Value) (l : Nat → List Int) (d : DfaD) (k1 k2 k3 k4 X G : Nat) (GA : Array Value) (v1 : Nat → Value) (W : World) : Prop where
  pl : PL w C T0 A0 v0 l W
  xrow : W.heap[X]? = some (.cells #[.slice (some ⟨k1, 0, none⟩) d.classes.length d.classes.length, .int .i64 d.width, .slice (some ⟨k2, 0, none⟩) d.next.length d.next.length, .slice (some ⟨k3, 0, none⟩) d.tag.length d.tag.length, .slice (some ⟨k4, 0, none⟩) d.fin.length d.fin.length] 26 (0, 0))
  grow : W.heap[G]? = some (.cells GA 26 (0, 0))
  fam : Fam X 4 W v1 l
  low : ∀ i, i < 4 → ∀ b, (v1 i).ownBlock = some b → b < G
  o1 : Owns (T0 + 1) W (slF k1 d.classes) d.classes
  o2 : Owns (T0 + 1) W (slF k2 d.next) d.next
  o3 : Owns (T0 + 1) W (slF k3 d.tag) d.tag
  o4 : Owns (T0 + 1) W (slF k4 d.fin) d.fin
  ks : T0 < k1 ∧ k1 < k2 ∧ k2 < k3 ∧ k3 < k4 ∧ k4 < X ∧ X < G
theorem PX.more {w W W' : World} {C A0 GA : Array Value} {T0 k1 k2 k3 k4 X G : Nat} {v0 v1 : Nat → Value} {l : Nat → List Int} {d : DfaD} (h : PX w C T0 A0 v0 l d k1 k2 k3 k4 X G GA v1 W) (hb : Below W.heap.size W W') : PX w C T0 A0 v0 l d k1 k2 k3 k4 X G GA v1 W' :=
  ⟨h.pl.grow hb, row_below h.xrow hb, row_below h.grow hb, h.fam.below hb, h.low, owns_since h.o1 (Nat.le_refl _) hb, owns_since h.o2 (Nat.le_refl _) hb, owns_since h.o3 (Nat.le_refl _) hb, owns_since h.o4 (Nat.le_refl _) hb, h.ks⟩
/- .. and once the automaton has been marked. -/
structure PY (w : World) (C : Array Value) (T0 : Nat) (A0 : Array Value) (v0 : Nat → Value) (l : Nat → List Int) (X G : Nat) (GA : Array Value) (v1 : Nat → Value) (W : World) : Prop where
  pl : PL w C T0 A0 v0 l W
  grow : W.heap[G]? = some (.cells GA 26 (0, 0))
  fam : Fam X 4 W v1 l
  low : ∀ i, i < 4 → ∀ b, (v1 i).ownBlock = some b → b < G
  ks : T0 < X ∧ X < G
theorem PY.more {w W W' : World} {C A0 GA : Array Value} {T0 X G : Nat} {v0 v1 : Nat → Value} {l : Nat → List Int} (h : PY w C T0 A0 v0 l X G GA v1 W) (hb : Below W.heap.size W W') : PY w C T0 A0 v0 l X G GA v1 W' :=
  ⟨h.pl.grow hb, row_below h.grow hb, h.fam.below hb, h.low, h.ks⟩
theorem PX.marked {w W W' : World} {C A0 GA : Array Value} {T0 k1 k2 k3 k4 X G : Nat} {v0 v1 : Nat → Value} {l : Nat → List Int} {d : DfaD} (h : PX w C T0 A0 v0 l d k1 k2 k3 k4 X G GA v1 W) (hb : Below (T0 + 1) W W') (hk : ∀ b, b < W.heap.size → offFour k1 k2 k3 k4 b → W'.heap[b]? = W.heap[b]?) : PY w C T0 A0 v0 l X G GA v1 W' := by
  obtain ⟨q1, q2, q3, q4, q5, q6⟩ := h.ks
  refine ⟨h.pl.keep (by omega) hb, (hk G (row_lt h.grow) ⟨by omega, by omega, by omega, by omega⟩).trans h.grow, h.fam.keepO fun i hi b hbb => ?_, h.low, ⟨by omega, q6⟩⟩
  have z := owns_block (h.fam.own i hi) hbb
  exact hk b z.2 ⟨by omega, by omega, by omega, by omega⟩
theorem own_dfa {B : Nat} {W : World} {k1 k2 k3 k4 : Nat} {d : DfaD} (hsm : DfaSmall d) (o1 : Owns B W (slF k1 d.classes) d.classes) (o2 : Owns B W (slF k2 d.next) d.next) (o3 : Owns B W (slF k3 d.tag) d.tag) (o4 : Owns B W (slF k4 d.fin) d.fin) : DfaAt B W (slF k1 d.classes) (slF k2 d.next) (slF k3 d.tag) (slF k4 d.fin) d := by
  obtain ⟨s1, s2, s3, s4⟩ := hsm
  exact ⟨o1.at (by omega), o2.at (by omega), o3.at (by omega), o4.at (by omega)⟩

set_option maxRecDepth 100000 in
set_option maxHeartbeats 4000000 in
theorem lawMinimize_go {lo : Nat} (cv nv tv ev : Value) (d : DfaD) (width : Int) (l : Nat → List Int) (w : World) (hs : DfaAt lo w cv nv tv ev d) (hsz : ¬dfaSz d 1048576 < 0) (hl : ∀ i, i < 4 → (l i).length ≤ 1048576)
    (hspec : ∀ (m g1 g2 g3 g4 : Nat) (w : World), DfaAt m w (slF g1 d.classes) (slF g2 d.next) (slF g3 d.tag) (slF g4 d.fin) d → Calls Try.prog 5 #[.agg #[slF g1 d.classes, .int .i64 d.width, slF g2 d.next, slF g3 d.tag, slF g4 d.fin]] w (MinAns w width l))
    (himpl : ∀ (m g1 g2 g3 g4 : Nat) (w : World), DfaAt m w (slF g1 d.classes) (slF g2 d.next) (slF g3 d.tag) (slF g4 d.fin) d → Calls Try.prog 7 #[.agg #[slF g1 d.classes, .int .i64 d.width, slF g2 d.next, slF g3 d.tag, slF g4 d.fin]] w (MinAns w width l)) :
    Calls Try.prog 3 #[.agg #[cv, .int .i64 d.width, nv, tv, ev]] w fun e w' => e = .returned (.bool true) ∧ Below w.heap.size w w' := by
  have hsm : DfaSmall d := dfaSz_small (by omega)
  have hb0 : Below w.heap.size w (w.alloc (.cells #[cv, .int .i64 d.width, nv, tv, ev] 24)) := (Below.refl _ _).alloc (Nat.le_refl _) _
  have r0 : (w.alloc (.cells #[cv, .int .i64 d.width, nv, tv, ev] 24)).heap[w.heap.size]? = some (.cells #[cv, .int .i64 d.width, nv, tv, ev] 24 (0, 0)) := heap_alloc_new _ _
  go_enter Try.func3, Try.ntmps3
  go_wp2_with fail
  refine (szDfa_ok _ _ _ _ d 1048576 _ (hs.below hb0) (by omega) (by omega)).mono ?_
  rintro e w1 ⟨rfl, b1⟩
  have c1 := below_step hb0 hb0.size b1
  have r1 := row_below r0 b1
  clear r0 b1 hb0
  obtain ⟨y0, y1, y2, y3, y4⟩ := row_five r1
  go_wp2_with fail
  refine (toDfa_own _ _ _ _ d _ (hs.below c1) hsm).mono ?_
  rintro e w2 ⟨g1, g2, g3, g4, rfl, _, _, _, _, o1, o2, o3, o4, b2⟩
  have c2 := below_step c1 c1.size b2
  have r2 := row_below r1 b2
  clear y0 y1 y2 y3 y4 r1 c1 b2
  go_wp2_with fail
  refine (hspec _ _ _ _ _ _ (own_dfa hsm o1 o2 o3 o4)).mono ?_
  intro e w3 hA
  obtain ⟨a0, p0, rfl, F0, b3⟩ := hA.form
  clear hA o1 o2 o3 o4
  have c3 := below_step c2 c2.size b3
  have r3 := row_below r2 b3
  have lt3 := row_lt r3
  have hna : Below w3.heap.size w3 (w3.alloc (.cells #[.slice (a0 0) (l 0).length (p0 0), .int .i64 width, .slice (a0 1) (l 1).length (p0 1), .slice (a0 2) (l 2).length (p0 2), .slice (a0 3) (l 3).length (p0 3)] 26)) := (Below.refl _ _).alloc (Nat.le_refl _) _
  have L3 : PL w #[cv, .int .i64 d.width, nv, tv, ev] w3.heap.size #[.slice (a0 0) (l 0).length (p0 0), .int .i64 width, .slice (a0 1) (l 1).length (p0 1), .slice (a0 2) (l 2).length (p0 2), .slice (a0 3) (l 3).length (p0 3)] (slD a0 l p0) l (w3.alloc (.cells #[.slice (a0 0) (l 0).length (p0 0), .int .i64 width, .slice (a0 1) (l 1).length (p0 1), .slice (a0 2) (l 2).length (p0 2), .slice (a0 3) (l 3).length (p0 3)] 26)) :=
    ⟨below_step c3 c3.size hna, row_below r3 hna, heap_alloc_new _ _, (F0.below hna).lowerD c2.size, fun i hi b hb => (owns_block (F0.own i hi) hb).2, lt3⟩
  unfold rowD slD
  clear F0 r2 c2 b3 c3 hna
  obtain ⟨y0, y1, y2, y3, y4⟩ := row_five r3
  go_upto_region 6 with fail
  generalize hV3 : w3.alloc (.cells #[.slice (a0 0) (l 0).length (p0 0), .int .i64 width, .slice (a0 1) (l 1).length (p0 1), .slice (a0 2) (l 2).length (p0 2), .slice (a0 3) (l 3).length (p0 3)] 26) = V3 at *
  have hz3 : V3.heap.size = w3.heap.size + 1 := by rw [← hV3]; exact World.size_alloc _ _
  have HZ3 : Hid (V3.heap.size = w3.heap.size + 1) := hz3
  clear hV3 hz3 y0 y1 y2 y3 y4 r3
  generalize w3.heap.size = T0 at *
  obtain ⟨y0, y1, y2, y3, y4⟩ := row_five L3.arg
  go_wp2_with fail
  refine (toDfa_own _ _ _ _ d _ (hs.below L3.below) hsm).mono ?_
  rintro e w4 ⟨k1, k2, k3, k4, rfl, hk0, hk1, hk2, hk3, o1, o2, o3, o4, b4⟩
  have L4 := L3.grow b4
  rw [HZ3.out] at o1 o2 o3 o4 hk0
  clear y0 y1 y2 y3 y4 L3 b4 HZ3
  have lk4 : k4 < w4.heap.size := (owns_block o4 (b := k4) (by simp [slF, Value.ownBlock])).2
  have hnx : Below w4.heap.size w4 (w4.alloc (.cells #[.slice (some ⟨k1, 0, none⟩) d.classes.length d.classes.length, .int .i64 d.width, .slice (some ⟨k2, 0, none⟩) d.next.length d.next.length, .slice (some ⟨k3, 0, none⟩) d.tag.length d.tag.length, .slice (some ⟨k4, 0, none⟩) d.fin.length d.fin.length] 26)) := (Below.refl _ _).alloc (Nat.le_refl _) _
  have q4 : (w4.alloc (.cells #[.slice (some ⟨k1, 0, none⟩) d.classes.length d.classes.length, .int .i64 d.width, .slice (some ⟨k2, 0, none⟩) d.next.length d.next.length, .slice (some ⟨k3, 0, none⟩) d.tag.length d.tag.length, .slice (some ⟨k4, 0, none⟩) d.fin.length d.fin.length] 26)).heap[w4.heap.size]? = some (.cells #[.slice (some ⟨k1, 0, none⟩) d.classes.length d.classes.length, .int .i64 d.width, .slice (some ⟨k2, 0, none⟩) d.next.length d.next.length, .slice (some ⟨k3, 0, none⟩) d.tag.length d.tag.length, .slice (some ⟨k4, 0, none⟩) d.fin.length d.fin.length] 26 (0, 0)) := heap_alloc_new _ _
  have L5 := L4.grow hnx
  have o1x := owns_since o1 (Nat.le_refl _) hnx
  have o2x := owns_since o2 (Nat.le_refl _) hnx
  have o3x := owns_since o3 (Nat.le_refl _) hnx
  have o4x := owns_since o4 (Nat.le_refl _) hnx
  clear hnx L4 o1 o2 o3 o4
  unfold slF
  go_upto_region 7 with fail
  have hz4 : (w4.alloc (.cells #[.slice (some ⟨k1, 0, none⟩) d.classes.length d.classes.length, .int .i64 d.width, .slice (some ⟨k2, 0, none⟩) d.next.length d.next.length, .slice (some ⟨k3, 0, none⟩) d.tag.length d.tag.length, .slice (some ⟨k4, 0, none⟩) d.fin.length d.fin.length] 26)).heap.size = w4.heap.size + 1 := World.size_alloc _ _
  generalize w4.alloc (.cells #[.slice (some ⟨k1, 0, none⟩) d.classes.length d.classes.length, .int .i64 d.width, .slice (some ⟨k2, 0, none⟩) d.next.length d.next.length, .slice (some ⟨k3, 0, none⟩) d.tag.length d.tag.length, .slice (some ⟨k4, 0, none⟩) d.fin.length d.fin.length] 26) = V4 at *
  generalize w4.heap.size = X at *
  have HZ4 : Hid (V4.heap.size = X + 1) := hz4
  clear hz4
  obtain ⟨y0, y1, y2, y3, y4⟩ := row_five q4
  go_wp2_with fail
  refine (himpl _ k1 k2 k3 k4 _ (own_dfa hsm o1x o2x o3x o4x)).mono ?_
  intro e w5 hA
  obtain ⟨a1, p1, rfl, F1, b5⟩ := hA.form
  clear hA y0 y1 y2 y3 y4
  have hnb : Below w5.heap.size w5 (w5.alloc (.cells #[.slice (a1 0) (l 0).length (p1 0), .int .i64 width, .slice (a1 1) (l 1).length (p1 1), .slice (a1 2) (l 2).length (p1 2), .slice (a1 3) (l 3).length (p1 3)] 26)) := (Below.refl _ _).alloc (Nat.le_refl _) _
  have b56 := below_step b5 b5.size hnb
  have P6 : PX w #[cv, .int .i64 d.width, nv, tv, ev] T0 #[.slice (a0 0) (l 0).length (p0 0), .int .i64 width, .slice (a0 1) (l 1).length (p0 1), .slice (a0 2) (l 2).length (p0 2), .slice (a0 3) (l 3).length (p0 3)] (slD a0 l p0) l d k1 k2 k3 k4 X w5.heap.size #[.slice (a1 0) (l 0).length (p1 0), .int .i64 width, .slice (a1 1) (l 1).length (p1 1), .slice (a1 2) (l 2).length (p1 2), .slice (a1 3) (l 3).length (p1 3)] (slD a1 l p1) (w5.alloc (.cells #[.slice (a1 0) (l 0).length (p1 0), .int .i64 width, .slice (a1 1) (l 1).length (p1 1), .slice (a1 2) (l 2).length (p1 2), .slice (a1 3) (l 3).length (p1 3)] 26)) :=
    ⟨L5.grow b56, row_below q4 b56, heap_alloc_new _ _, (F1.below hnb).lowerD (by have := HZ4.out; omega), fun i hi b hb => (owns_block (F1.own i hi) hb).2, owns_since o1x (Nat.le_refl _) b56, owns_since o2x (Nat.le_refl _) b56, owns_since o3x (Nat.le_refl _) b56, owns_since o4x (Nat.le_refl _) b56, by have := b5.size; have := HZ4.out; omega⟩
  clear b56 hnb F1 b5 o1x o2x o3x o4x L5 q4 HZ4 hk0 hk1 hk2 hk3 lk4
  unfold rowD slD
  go_upto_region 8 with fail
  generalize w5.alloc (.cells #[.slice (a1 0) (l 0).length (p1 0), .int .i64 width, .slice (a1 1) (l 1).length (p1 1), .slice (a1 2) (l 2).length (p1 2), .slice (a1 3) (l 3).length (p1 3)] 26) = V5 at *
  generalize w5.heap.size = G at *
  obtain ⟨x0, x1, x2, x3, x4⟩ := row_five P6.pl.tab
  obtain ⟨y0, y1, y2, y3, y4⟩ := row_five P6.grow
  go_wp2_with fail
  refine (eqDfa_ok _ _ _ _ _ _ _ _ (dfaOf width l) _ (P6.fam.dfa width hl) (P6.pl.fam.dfa width hl)).mono ?_
  rintro e w6 ⟨rfl, b6⟩
  have P7 := P6.more b6
  clear x0 x1 x2 x3 x4 y0 y1 y2 y3 y4 P6 b6
  have r7 := P7.pl.arg
  have q7 := P7.xrow
  have hbb7 := P7.pl.below
  have hx7 := own_dfa hsm P7.o1 P7.o2 P7.o3 P7.o4
  go_upto_region 10 with fail
  go_region_held3 (fun w' => w'.cell? ⟨w.heap.size, 0, none⟩ = some (cv) ∧ w'.cell? ⟨w.heap.size, 1, none⟩ = some (.int .i64 d.width) ∧ w'.cell? ⟨w.heap.size, 2, none⟩ = some (nv) ∧ w'.cell? ⟨w.heap.size, 3, none⟩ = some (tv) ∧ w'.cell? ⟨w.heap.size, 4, none⟩ = some (ev) ∧ w'.cell? ⟨X, 0, none⟩ = some (.slice (some ⟨k1, 0, none⟩) d.classes.length d.classes.length) ∧ w'.cell? ⟨X, 1, none⟩ = some (.int .i64 d.width) ∧ w'.cell? ⟨X, 2, none⟩ = some (.slice (some ⟨k2, 0, none⟩) d.next.length d.next.length) ∧ w'.cell? ⟨X, 3, none⟩ = some (.slice (some ⟨k3, 0, none⟩) d.tag.length d.tag.length) ∧ w'.cell? ⟨X, 4, none⟩ = some (.slice (some ⟨k4, 0, none⟩) d.fin.length d.fin.length)) ((first | exact rows_ten (row_drew r7) (row_drew q7) | exact rows_ten r7 q7 | exact rows_ten (row_below (row_drew r7) b8) (row_below (row_drew q7) b8) | exact rows_ten (row_below (row_below (row_drew r7) b8) b9) (row_below (row_below (row_drew q7) b8) b9))) ((first | (go_at_call 6; refine (toDfa_ok _ _ _ _ d _ (hs.below hbb7.drew) hsm).mono ?_; rintro e w8 ⟨cv8, nv8, tv8, ev8, rfl, hx8, b8⟩) | (go_at_call 8; refine (eqDfa_ok _ _ _ _ _ _ _ _ d _ ((hx7.below (Below.refl _ _).drew).below b8) hx8).mono ?_; rintro e w9 ⟨rfl, b9⟩)))
  have P8 := (P7.more (Below.refl _ _).drew).more b8 |>.more b9
  clear P7 r7 q7 hbb7 hx7 b8 b9
  obtain ⟨y0, y1, y2, y3, y4⟩ := row_five P8.xrow
  go_wp2_with fail
  refine (markDfa_ok k1 k2 k3 k4 d 1 _ P8.o1 P8.o2 P8.o3 P8.o4 ⟨P8.ks.2.1, P8.ks.2.2.1, P8.ks.2.2.2.1⟩ hsm (by omega) (by omega) (by have := row_lt P8.pl.tab; omega)).mono ?_
  rintro e w10 ⟨⟨rr, hr0, rfl⟩, b10, k10⟩
  have Y := P8.marked b10 k10
  clear P8 y0 y1 y2 y3 y4 b10 k10
  have hrr : ¬rr < 0 := by omega
  obtain ⟨x0, x1, x2, x3, x4⟩ := row_five Y.pl.tab
  obtain ⟨y0, y1, y2, y3, y4⟩ := row_five Y.grow
  go_wp2_with fail
  refine (eqDfa_ok _ _ _ _ _ _ _ _ (dfaOf width l) _ (Y.fam.dfa width hl) (Y.pl.fam.dfa width hl)).mono ?_
  rintro e w11 ⟨rfl, b11⟩
  have Y2 := Y.more b11
  clear x0 x1 x2 x3 x4 y0 y1 y2 y3 y4 Y b11
  obtain ⟨y0, y1, y2, y3, y4⟩ := row_five Y2.grow
  go_wp2_with fail
  refine (markDfaF_ok width (slD a1 l p1) l 1 _ Y2.fam (by have := row_lt Y2.grow; have := Y2.ks; omega) hl (by omega) (by omega)).mono ?_
  rintro e w12 ⟨rfl, b12, rest12, F12⟩
  have L12 := Y2.pl.keep (B := X + 1) (by have := Y2.ks; omega) b12
  have g12 := (rest12 G (row_lt Y2.grow) (fun i hi hc => by have := Y2.low i hi _ hc; omega)).trans Y2.grow
  clear y0 y1 y2 y3 y4 Y2 b12 rest12
  have k0 := hl 0 (by omega); have k1' := hl 1 (by omega); have k2' := hl 2 (by omega); have k3' := hl 3 (by omega)
  have s0 : IntsAt _ w12 (slD a1 l p1 0) (markL (1) (l 0).length) := (F12.own 0 (by omega)).at (by show (markL _ _).length ≤ _; rw [markL_len]; omega)
  have s1 : IntsAt _ w12 (slD a1 l p1 1) (markL (1 + (l 0).length) (l 1).length) := (F12.own 1 (by omega)).at (by show (markL _ _).length ≤ _; rw [markL_len]; omega)
  have s2 : IntsAt _ w12 (slD a1 l p1 2) (markL (1 + (l 0).length + (l 1).length) (l 2).length) := (F12.own 2 (by omega)).at (by show (markL _ _).length ≤ _; rw [markL_len]; omega)
  have s3 : IntsAt _ w12 (slD a1 l p1 3) (markL (1 + (l 0).length + (l 1).length + (l 2).length) (l 3).length) := (F12.own 3 (by omega)).at (by show (markL _ _).length ≤ _; rw [markL_len]; omega)
  have hpos : 0 ≤ 1 + ((l 0).length : Int) + ((l 1).length : Int) + ((l 2).length : Int) + ((l 3).length : Int) := by omega
  have hH := heldDfa_ok width (slD a1 l p1) (l 0).length (l 1).length (l 2).length (l 3).length 1 w12 s0 s1 s2 s3 k0 k1' k2' k3' (by omega) (by omega)
  clear s0 s1 s2 s3 F12
  generalize 1 + ((l 0).length : Int) + ((l 1).length : Int) + ((l 2).length : Int) + ((l 3).length : Int) = tt at *
  have hne2 : (tt != tt) = false := by simp
  have hpos' : ¬tt < 0 := by omega
  obtain ⟨y0, y1, y2, y3, y4⟩ := row_five g12
  go_wp2_with fail
  refine hH.mono ?_
  rintro e w13 ⟨rfl, b13⟩
  have L13 := L12.grow b13
  clear y0 y1 y2 y3 y4 hH g12 L12 b13
  obtain ⟨y0, y1, y2, y3, y4⟩ := row_five L13.arg
  go_wp2_with fail
  refine (toDfa_own _ _ _ _ d _ (hs.below L13.below) hsm).mono ?_
  rintro e w14 ⟨m1, m2, m3, m4, rfl, _, _, _, _, o1, o2, o3, o4, b14⟩
  have L14 := L13.grow b14
  clear y0 y1 y2 y3 y4 L13 b14
  go_wp2_with fail
  refine (himpl _ m1 m2 m3 m4 _ (own_dfa hsm o1 o2 o3 o4)).mono ?_
  intro e w15 hA
  obtain ⟨a2, p2, rfl, F2, b15⟩ := hA.form
  clear hA o1 o2 o3 o4
  have hnd : Below w15.heap.size w15 (w15.alloc (.cells #[.slice (a2 0) (l 0).length (p2 0), .int .i64 width, .slice (a2 1) (l 1).length (p2 1), .slice (a2 2) (l 2).length (p2 2), .slice (a2 3) (l 3).length (p2 3)] 26)) := (Below.refl _ _).alloc (Nat.le_refl _) _
  have L15 := L14.grow (below_step b15 b15.size hnd)
  have F3 := F2.below hnd
  have q15 : (w15.alloc (.cells #[.slice (a2 0) (l 0).length (p2 0), .int .i64 width, .slice (a2 1) (l 1).length (p2 1), .slice (a2 2) (l 2).length (p2 2), .slice (a2 3) (l 3).length (p2 3)] 26)).heap[w15.heap.size]? = some (.cells #[.slice (a2 0) (l 0).length (p2 0), .int .i64 width, .slice (a2 1) (l 1).length (p2 1), .slice (a2 2) (l 2).length (p2 2), .slice (a2 3) (l 3).length (p2 3)] 26 (0, 0)) := heap_alloc_new _ _
  unfold rowD slD
  clear L14 b15 hnd F2
  go_upto_region 25 with fail
  generalize w15.alloc (.cells #[.slice (a2 0) (l 0).length (p2 0), .int .i64 width, .slice (a2 1) (l 1).length (p2 1), .slice (a2 2) (l 2).length (p2 2), .slice (a2 3) (l 3).length (p2 3)] 26) = V15 at *
  generalize w15.heap.size = H2 at *
  obtain ⟨x0, x1, x2, x3, x4⟩ := row_five L15.tab
  obtain ⟨y0, y1, y2, y3, y4⟩ := row_five q15
  go_wp2_with fail
  refine (eqDfa_ok _ _ _ _ _ _ _ _ (dfaOf width l) _ (F3.dfa width hl) (L15.fam.dfa width hl)).mono ?_
  rintro e w16 ⟨rfl, b16⟩
  go_wp2
  go_ret
  exact ⟨rfl, (L15.grow b16).below⟩

set_option maxRecDepth 100000 in
set_option maxHeartbeats 1000000 in
theorem lawMinimize_ok {lo : Nat} (cv nv tv ev : Value) (d : DfaD) (w : World) (hs : DfaAt lo w cv nv tv ev d) :
    Calls Try.prog 3 #[.agg #[cv, .int .i64 d.width, nv, tv, ev]] w fun e w' => e = .returned (.bool true) ∧ Below w.heap.size w w' := by
  by_cases hneg : dfaSz d 1048576 < 0
  · have hb0 : Below w.heap.size w (w.alloc (.cells #[cv, .int .i64 d.width, nv, tv, ev] 24)) := (Below.refl _ _).alloc (Nat.le_refl _) _
    go_enter Try.func3, Try.ntmps3
    go_wp2_with fail
    refine (szDfa_ok _ _ _ _ d 1048576 _ (hs.below hb0) (by omega) (by omega)).mono ?_
    rintro e w1 ⟨rfl, hb1⟩
    have c1 := below_step hb0 hb0.size hb1
    go_wp2
    go_ret
    exact ⟨rfl, c1⟩
  · have hsm : DfaSmall d := dfaSz_small (by omega)
    exact lawMinimize_go cv nv tv ev d (minW d) (minL d) w hs hneg (minL_len d) (fun m g1 g2 g3 g4 w hx => specMinimize_ok _ _ _ _ d w hx) (fun m g1 g2 g3 g4 w hx => implMinimize_ok _ _ _ _ d w hx hsm)
end Go.Proofs.Ytgbdlgogccgciaa
