import Derived.Test.YtipndbhedaknnaaDoorLinI
import Derived.Test.YtipndbhedaknnaaDoorSpQ
import Derived.Test.YtipndbhedaknnaaDoorMapI
namespace Go.Proofs.YtipndbhedaknnaaDoor
open Go.RowKit

/- THE LINES OF A SCRIPT. -/
def mapE (br : Nat) : Array MapEntry := #[{ key := .string ⟨#[105, 110]⟩, val := .func (.func 27) #[.pointer (some ⟨br, 0, none⟩)] #[], born := 0 }, { key := .string ⟨#[116, 105, 99, 107]⟩, val := .func (.func 28) #[.pointer (some ⟨br, 0, none⟩)] #[], born := 1 }, { key := .string ⟨#[101, 111, 102]⟩, val := .func (.func 29) #[.pointer (some ⟨br, 0, none⟩)] #[], born := 2 }]
/-- The blocks of readLines. -/
structure RB (H bm br : Nat) (k : Int) (W : World) : Prop where
  b4 : Boxed W H 52 (.map (some bm))
  b5 : Boxed W (H + 1) 3 (.int .i64 2)
  b6 : Boxed W (H + 1 + 1) 3 (.int .i64 0)
  b7 : Boxed W (H + 1 + 1 + 1) 3 (.int .i64 0)
  b8 : Boxed W (H + 1 + 1 + 1 + 1) 3 (.int .i64 k)
  mp : W.heap[bm]? = some (.map (mapE br) 3)
theorem RB.keep {H bm br : Nat} {k : Int} {W W' : World} (h : RB H bm br k W) (hb : br < H) (hm : bm < H) (hne : bm ≠ br) (hk : ∀ i, i < H + 8 → i ≠ br → W'.heap[i]? = W.heap[i]?) : RB H bm br k W' :=
  ⟨(hk _ (by omega) (by omega)).trans h.b4, (hk _ (by omega) (by omega)).trans h.b5, (hk _ (by omega) (by omega)).trans h.b6, (hk _ (by omega) (by omega)).trans h.b7, (hk _ (by omega) (by omega)).trans h.b8, (hk _ (by omega) hne).trans h.mp⟩
theorem RB.turn {H bm br : Nat} {k : Int} {A B : World} (h : RB H bm br k A) (hm : bm < H) (t : Turn (H + 8) (H + 5) A B) : RB H bm br k B :=
  ⟨t.boxed h.b4 (by omega), t.boxed h.b5 (by omega), t.boxed h.b6 (by omega), t.boxed h.b7 (by omega), t.boxed h.b8 (by omega), t.same bm _ (by omega) h.mp (.inl (by omega))⟩
theorem RB.count {H bm br : Nat} {k : Int} {W : World} (h : RB H bm br k W) (hm : bm < H) (k' : Int) : RB H bm br k' (W.setCell ⟨H + 1 + 1 + 1 + 1, 0, none⟩ (.int .i64 k')) :=
  ⟨h.b4.other (by omega) _, h.b5.other (by omega) _, h.b6.other (by omega) _, h.b7.other (by omega) _, h.b8.set _, (Below.heap_setCell W _ _ bm (by show bm ≠ H + 1 + 1 + 1 + 1; omega)).trans h.mp⟩
theorem RdAt.turn {base br b H : Nat} {A B : World} {vv : Value} {evs : List (Int × List UInt8)} (h : RdAt base br A vv evs) (t : Turn H b A B) (hb : br ≠ b) (hv : b < base) : RdAt base br B vv evs :=
  ⟨t.boxed h.1 hb, t.row h.2 (fun e => by have := (h.2.lt b e).1; omega)⟩
/-- Which event a line holds. -/
def lineEv (raw : List UInt8) : Option (Int × List UInt8) := match cutF 32 raw with
  | [] => none
  | f0 :: ls => if f0 = [105, 110] then inLine ls else if f0 = [116, 105, 99, 107] then bareLine 2 ls else if f0 = [101, 111, 102] then bareLine 3 ls else none
theorem cut_one {c : UInt8} {l k : List UInt8} (h : cutF c l = [k]) : l = k := by
  have hl := cut_len c l
  rw [h] at hl
  have hp : posF c l = -1 := by
    apply Classical.byContradiction
    intro x
    obtain ⟨_, _, _, _, _, h3⟩ := cut_some c _ x
    simp at hl
    omega
  rw [(cut_none c l hp).1] at h
  exact (List.cons.injEq _ _ _ _ ▸ h).1
theorem lineEv_eq (raw : List UInt8) : lineEv raw = evF raw := by
  unfold lineEv evF
  cases hc : cutF 32 raw with
  | nil => exact absurd hc (cutF_ne _ _)
  | cons f0 ls =>
    by_cases h2 : raw = [116, 105, 99, 107]
    · subst h2
      have e : cutF 32 [116, 105, 99, 107] = [[116, 105, 99, 107]] := by decide
      rw [e] at hc
      cases hc
      rfl
    · by_cases h3 : raw = [101, 111, 102]
      · subst h3
        have e : cutF 32 [101, 111, 102] = [[101, 111, 102]] := by decide
        rw [e] at hc
        cases hc
        rfl
      · rw [if_neg h2, if_neg h3]
        have hb : ∀ k, ¬raw = f0 → bareLine k ls = none := fun k hr => by
          unfold bareLine
          rw [if_neg]
          intro hx
          have : ls = [] := List.eq_nil_of_length_eq_zero (by simpa using hx)
          subst this
          exact hr (cut_one hc)
        by_cases g1 : f0 = [105, 110]
        · subst g1
          show inLine ls = evIn ([105, 110] :: ls)
          rcases ls with _ | ⟨f1, _ | ⟨f2, r⟩⟩
          · rfl
          · unfold inLine evIn wordOf
            simp only [List.headD_cons, List.tail_cons, List.length_nil, if_true]
            cases wordF f1 <;> simp [optL]
          · unfold inLine evIn
            simp
        · show (if f0 = [105, 110] then inLine ls else _) = evIn (f0 :: ls)
          rw [if_neg g1]
          have he : evIn (f0 :: ls) = none := by
            rcases ls with _ | ⟨f1, _ | ⟨f2, r⟩⟩
            · rfl
            · exact if_neg g1
            · rfl
          rw [he]
          by_cases g2 : f0 = [116, 105, 99, 107]
          · rw [if_pos g2]; exact hb 2 (fun x => h2 (x.trans g2))
          · rw [if_neg g2]
            by_cases g3 : f0 = [101, 111, 102]
            · rw [if_pos g3]; exact hb 3 (fun x => h3 (x.trans g3))
            · rw [if_neg g3]
/-- Where the reading of the lines stands. -/
def ScrPre (pre : List (List UInt8)) (evs : List (Int × List UInt8)) : Prop := evs.length ≤ 4000 ∧ ∀ rest, scriptL 0 [] (pre ++ rest) = scriptL pre.length evs rest
def ScrEnd (pre : List (List UInt8)) (code line : Int) : Prop := ¬code = 0 ∧ ∀ rest, scriptL 0 [] (pre ++ rest) = ([], code, line)
theorem ScrPre.start : ScrPre [] [] := ⟨Nat.zero_le _, fun _ => rfl⟩
theorem ScrPre.skip {pre : List (List UInt8)} {evs : List (Int × List UInt8)} (h : ScrPre pre evs) {raw : List UInt8} (hs : skipF raw = true) : ScrPre (pre ++ [raw]) evs :=
  ⟨h.1, fun rest => by rw [List.append_assoc, h.2, List.singleton_append, scriptL, if_pos hs, List.length_append]; rfl⟩
theorem ScrPre.one {pre : List (List UInt8)} {evs : List (Int × List UInt8)} (h : ScrPre pre evs) {raw : List UInt8} (hs : skipF raw = false) {e : Int × List UInt8} (he : lineEv raw = some e) (hn : ¬evs.length = 4000) : ScrPre (pre ++ [raw]) (evs ++ [e]) :=
  ⟨by have := h.1; simp; omega, fun rest => by rw [List.append_assoc, h.2, List.singleton_append, scriptL, if_neg (by simp [hs]), ← lineEv_eq, he]; simp only []; rw [if_neg hn, List.length_append]; rfl⟩
theorem ScrPre.bad {pre : List (List UInt8)} {evs : List (Int × List UInt8)} (h : ScrPre pre evs) {raw : List UInt8} (hs : skipF raw = false) (he : lineEv raw = none) : ScrEnd (pre ++ [raw]) 2 ((pre.length : Int) + 1) :=
  ⟨by decide, fun rest => by rw [List.append_assoc, h.2, List.singleton_append, scriptL, if_neg (by simp [hs]), ← lineEv_eq, he]⟩
theorem ScrPre.many {pre : List (List UInt8)} {evs : List (Int × List UInt8)} (h : ScrPre pre evs) {raw : List UInt8} (hs : skipF raw = false) {e : Int × List UInt8} (he : lineEv raw = some e) (hn : evs.length = 4000) : ScrEnd (pre ++ [raw]) 3 ((pre.length : Int) + 1) :=
  ⟨by decide, fun rest => by rw [List.append_assoc, h.2, List.singleton_append, scriptL, if_neg (by simp [hs]), ← lineEv_eq, he]; simp only []; rw [if_pos hn]⟩

/-- A step that turns nothing but block br and cells from H + 8 on. -/
structure Mild (H br : Nat) (A B : World) : Prop where
  os : B.os = A.os
  tape : B.tape = A.tape
  output : B.output = A.output
  size : A.heap.size ≤ B.heap.size
  block : ∀ i, i < A.heap.size → i ≠ br → (H + 8 ≤ i → ∀ o, A.heap[i]? = some o → o.isCells = false) → B.heap[i]? = A.heap[i]?
theorem Mild.below {H br : Nat} {A B : World} (h : Below A.heap.size A B) : Mild H br A B := ⟨h.os, h.tape, h.output, h.size, fun i hi _ _ => h.block i hi⟩
theorem Mild.alloc {H br : Nat} (A : World) (o : Obj) : Mild H br A (A.alloc o) := Mild.below ((Below.refl _ A).alloc (Nat.le_refl _) _)
theorem Mild.drew {H br : Nat} (A : World) : Mild H br A A.drew := ⟨rfl, rfl, rfl, Nat.le_refl _, fun _ _ _ _ => rfl⟩
theorem Mild.only {H br b : Nat} {o : Option Nat} {A B : World} (h : Only br o b A B) (ho : ∀ g, o = some g → H + 8 ≤ g ∧ ∃ c t f, A.heap[g]? = some (.cells c t f)) (hb : H + 8 ≤ b ∧ ∃ c t f, A.heap[b]? = some (.cells c t f)) : Mild H br A B :=
  ⟨h.os, h.tape, h.output, h.size, fun i hi h1 h2 => h.block i hi h1
    (fun e => by obtain ⟨hg, c, t, f, hc⟩ := ho i e.symm; have := h2 hg _ hc; cases this)
    (fun e => by subst e; obtain ⟨hg, c, t, f, hc⟩ := hb; have := h2 hg _ hc; cases this)⟩
/-- Where a round stands, begun at W. -/
structure Rnd (H bm br n₀ : Nat) (k : Int) (wS W W' : World) : Prop where
  rb : RB H bm br k W'
  keep : KeepsFrom (H + 8) W W'
  kp : ∀ i, H + 5 ≤ i → i < H + 8 → W'.heap[i]? = W.heap[i]?
  low : Below n₀ wS W'
  size : H + 8 ≤ W'.heap.size
theorem Rnd.start {H bm br n₀ : Nat} {k : Int} {wS W : World} (h : RB H bm br k W) (hm : bm < H) (hl : Below n₀ wS W) (hs : H + 8 ≤ W.heap.size) (hn : n₀ ≤ H) (k' : Int) : Rnd H bm br n₀ k' wS W (W.setCell ⟨H + 1 + 1 + 1 + 1, 0, none⟩ (.int .i64 k')) :=
  ⟨h.count hm k', (KeepsOthers.setCell _ _ _).from _, fun i h1 h2 => Below.heap_setCell W _ _ i (by show i ≠ H + 1 + 1 + 1 + 1; omega), hl.setCell (p := ⟨H + 1 + 1 + 1 + 1, 0, none⟩) (by simp; omega) _, by simp; omega⟩
theorem Rnd.step {H bm br n₀ : Nat} {k : Int} {wS W A B : World} (h : Rnd H bm br n₀ k wS W A) (hm : bm < H) (hbr : br < H) (hne : bm ≠ br) (hn0 : n₀ ≤ br) (m : Mild H br A B) : Rnd H bm br n₀ k wS W B := by
  have hsz := h.size
  have lo : ∀ i, i < H + 8 → i ≠ br → B.heap[i]? = A.heap[i]? := fun i hi h1 => m.block i (by omega) h1 (fun h2 => by omega)
  refine ⟨h.rb.keep hbr hm hne lo, ⟨Nat.le_trans h.keep.size m.size, fun i o hi h1 h2 => ?_⟩, fun i h1 h2 => (lo i h2 (by omega)).trans (h.kp i h1 h2), ⟨m.os.trans h.low.os, m.tape.trans h.low.tape, m.output.trans h.low.output, Nat.le_trans h.low.size m.size, fun i hi => (lo i (by omega) (by omega)).trans (h.low.block i hi)⟩, Nat.le_trans h.size m.size⟩
  have h3 := h.keep.same i o hi h1 h2
  exact (m.block i (Array.getElem?_eq_some_iff.1 h3).1 (by omega) (fun _ o2 ho2 => by rw [h3] at ho2; cases ho2; exact h2)).trans h3
theorem RdAt.mild {base br : Nat} {A B : World} {vv : Value} {evs : List (Int × List UInt8)} (h : RdAt base br A vv evs) (hb : Below A.heap.size A B) : RdAt base br B vv evs :=
  ⟨(hb.block br h.1.lt).trans h.1, ownsRow_below h.2 hb⟩
theorem rd_cells {base br : Nat} {A : World} {vv : Value} {evs : List (Int × List UInt8)} (h : RdAt base br A vv evs) : ∀ g, vv.ownBlock = some g → base ≤ g ∧ ∃ c t f, A.heap[g]? = some (.cells c t f) := by
  intro g hg
  rcases h.2.2 with ⟨rfl, _⟩ | ⟨g', cap, cur, rfl, h1, h2, _⟩
  · cases hg
  · obtain rfl : g' = g := by simpa [Value.ownBlock] using hg
    exact ⟨h1, _, _, _, h2⟩
end Go.Proofs.YtipndbhedaknnaaDoor
