import Derived.Test.YthgaeaihfbiolaaDoorRfRPosB
namespace Go.Proofs.YthgaeaihfbiolaaDoor
open Go.RowKit
attribute [local go_sem] Oper.semAt_some

/-- No block but those of S, and those that are new, has turned. -/
structure Touch (S : Nat → Prop) (w W : World) : Prop where
  os : W.os = w.os
  tape : W.tape = w.tape
  output : W.output = w.output
  size : w.heap.size ≤ W.heap.size
  same : ∀ k, k < w.heap.size → ¬S k → W.heap[k]? = w.heap[k]?
theorem Touch.refl (S : Nat → Prop) (w : World) : Touch S w w := ⟨rfl, rfl, rfl, Nat.le_refl _, fun _ _ _ => rfl⟩
theorem Touch.turn {S : Nat → Prop} {w A B : World} (h : Touch S w A) (t : TurnR w.heap.size A B) : Touch S w B :=
  ⟨t.os.trans h.os, t.tape.trans h.tape, t.output.trans h.output, Nat.le_trans h.size t.size, fun k hk hs => by
    have e := h.same k hk hs
    have hA : k < A.heap.size := Nat.lt_of_lt_of_le hk h.size
    rw [← e, t.same k _ (Array.getElem?_eq_getElem hA) (.inl hk), Array.getElem?_eq_getElem hA]⟩
theorem Touch.grown {S : Nat → Prop} {w A B : World} {o : Option Nat} (h : Touch S w A) (hg : A.grownBy B o) (hS : ∀ g, o = some g → S g ∨ w.heap.size ≤ g) : Touch S w B :=
  ⟨hg.os.trans h.os, hg.tape.trans h.tape, hg.output.trans h.output, Nat.le_trans h.size hg.size, fun k hk hs => by
    refine (hg.block k (Nat.lt_of_lt_of_le hk h.size) (fun e => ?_)).trans (h.same k hk hs)
    rcases hS k e.symm with h1 | h1
    · exact hs h1
    · omega⟩
theorem Touch.trans {S : Nat → Prop} {w A B : World} (h : Touch S w A) (k : Touch S A B) : Touch S w B :=
  ⟨k.os.trans h.os, k.tape.trans h.tape, k.output.trans h.output, Nat.le_trans h.size k.size, fun i hi hs => (k.same i (Nat.lt_of_lt_of_le hi h.size) hs).trans (h.same i hi hs)⟩
theorem Touch.of_below {S : Nat → Prop} {w A : World} (h : Below w.heap.size w A) : Touch S w A := ⟨h.os, h.tape, h.output, h.size, fun k hk _ => h.block k hk⟩
theorem Touch.mono {S S' : Nat → Prop} {w A : World} (h : Touch S w A) (hs : ∀ k, k < w.heap.size → S k → S' k) : Touch S' w A := ⟨h.os, h.tape, h.output, h.size, fun k hk hn => h.same k hk fun q => hn (hs k hk q)⟩
theorem PosAt.touch {S : Nat → Prop} {w W : World} {nw g : Nat} {T : Nat → Nat} (h : PosAt w nw g T) (t : Touch S w W) (hs : ¬S g) : PosAt W nw g T := ⟨(t.same g h.glt hs).trans h.row, h.lt⟩

/-- The rows of what may follow. -/
structure Fol (W : World) (n nw : Nat) (fr : Nat → Nat) (F : Nat → Nat → Nat) : Prop where
  rows : ∀ p, p < n → PosAt W nw (fr p) (F p)
  inj : ∀ p q, p < n → q < n → fr p = fr q → p = q

set_option maxRecDepth 100000 in
set_option maxHeartbeats 4000000 in
theorem link_ok (n nw bt g1 c1 g2 c2 : Nat) (sv fv : Value) (fr : Nat → Nat) (F : Nat → Nat → Nat) (T1 T2 : Nat → Nat) (w : World)
    (hbox : TrBox w bt nw sv fv) (hfv : 0 < n → ∃ gf cf : Nat, fv = .slice (some ⟨gf, 0, none⟩) n cf ∧ gf < w.heap.size ∧ (∀ p, p < n → w.cell? ⟨gf, p, none⟩ = some (.slice (some ⟨fr p, 0, none⟩) nw nw)) ∧ ∀ p, p < n → fr p ≠ gf) (hF : Fol w n nw fr F) (h1 : PosAt w nw g1 T1) (h2 : PosAt w nw g2 T2)
    (hd1 : ∀ p, p < n → fr p ≠ g1) (hd2 : ∀ p, p < n → fr p ≠ g2) (hd0 : ∀ p, p < n → fr p ≠ 0) (hdb : ∀ p, p < n → fr p ≠ bt) (hm : ∀ p, p < 64 * nw → bitAt T1 p = true → p < n) (hn64 : n ≤ 64 * nw) (hnw : nw ≤ 1000) (hB : Bruijn w) (h0 : 0 < w.heap.size) :
    Calls Tryd.prog 56 #[.pointer (some ⟨bt, 0, none⟩), .slice (some ⟨g1, 0, none⟩) nw c1, .slice (some ⟨g2, 0, none⟩) nw c2] w fun e w' => e = .returned (.tuple #[]) ∧ Fol w' n nw fr (fun p => if bitAt T1 p = true then orT (F p) T2 else F p) ∧ Touch (fun k => ∃ p, p < n ∧ k = fr p) w w' := by
  refine (callsIn_wide (n := 5)).1 ?_
  refine callsIn_of_wp_marks Tryd.func56 rfl trivial ?_ rfl
  simp only [Tryd.ntmps56, List.size_toArray, List.length_cons, List.length_nil, Nat.reduceAdd, Nat.reduceSub, Array.replicate_succ, Array.replicate_zero, List.push_toArray, List.append_toArray, List.nil_append, List.cons_append]
  gi_wp2
  obtain ⟨W0, hW0⟩ : ∃ W0, ((w.alloc (.cells #[.pointer (some ⟨bt, 0, none⟩)] 44)).alloc (.cells #[.slice (some ⟨g2, 0, none⟩) nw c2] 48)) = W0 := ⟨_, rfl⟩
  have hb0 : Below w.heap.size w W0 := by rw [← hW0]; exact ((Below.refl _ _).alloc (Nat.le_refl _) _).alloc (by simp) _
  have hsz : W0.heap.size = w.heap.size + 1 + 1 := by rw [← hW0]; simp
  have x3 : W0.heap[w.heap.size]? = some (.cells #[.pointer (some ⟨bt, 0, none⟩)] 44 (0, 0)) := by rw [← hW0]; exact row_alloc (heap_alloc_new _ _)
  have x5 : W0.heap[w.heap.size + 1]? = some (.cells #[.slice (some ⟨g2, 0, none⟩) nw c2] 48 (0, 0)) := by
    rw [← hW0]
    have := heap_alloc_new (w.alloc (.cells #[.pointer (some ⟨bt, 0, none⟩)] 44)) (.cells #[.slice (some ⟨g2, 0, none⟩) nw c2] 48)
    simpa using this
  rw [hW0]
  clear hW0
  have hfl : ∀ p, p < n → fr p < w.heap.size := fun p hp => (hF.rows p hp).glt
  have hbt : bt < w.heap.size := (Array.getElem?_eq_some_iff.1 hbox).1
  have y1 : PosAt W0 nw g1 T1 := h1.below hb0
  have y2 : PosAt W0 nw g2 T2 := h2.below hb0
  have yb : Bruijn W0 := hB.keep (hb0.block 0 h0)
  have yx : TrBox W0 bt nw sv fv := (hb0.block bt hbt).trans hbox
  have yr : ∀ p, p < n → PosAt W0 nw (fr p) (F p) := fun p hp => (hF.rows p hp).below hb0
  refine wpIn_rangeR (by omega) (gf := 57) (fb := #[.slice (some ⟨g1, 0, none⟩) nw c1]) (lb := #[]) rfl (enters_of Tryd.func57 (by kernel_rfl) rfl)
    (T := [0, g1]) (by intro k hk; have := y1.glt; simp at hk; omega)
    (members_runs 4 nw g1 c1 T1 (by omega) hnw W0 y1 yb) (fun _ => rfl)
    (fun pre W => Touch (fun k => ∃ p, p < n ∧ k = fr p) W0 W ∧ ∀ p, p < n → PosAt W nw (fr p) (if p ∈ mvals pre then orT (F p) T2 else F p))
    (fun _ _ _ => False)
    (fun s A B hs ht => ⟨hs.1.turn ht, fun p hp => ⟨ht.same _ _ (hs.2 p hp).row (.inr rfl), (hs.2 p hp).lt⟩⟩)
    (fun c s A B hs ht => hs)
    ⟨Touch.refl _ _, fun p hp => by rw [if_neg (by simp [mvals])]; exact yr p hp⟩
    (fun x => { tmps := #[.pointer (some ⟨bt, 0, none⟩), .slice (some ⟨g1, 0, none⟩) nw c1, .slice (some ⟨g2, 0, none⟩) nw c2, .pointer (some ⟨w.heap.size, 0, none⟩), undef, .pointer (some ⟨w.heap.size + 1, 0, none⟩), .int .i64 (x.1 : Int), .slice (some ⟨g1, 0, none⟩) nw c1, .func (.func 57) #[.slice (some ⟨g1, 0, none⟩) nw c1] #[], .int .i64 (x.1 : Int), undef, undef, undef, undef, undef, undef, undef, undef, undef], defers := [] })
    ?assign ?body ?done ?stop
  case assign =>
    intro l x W K hK
    gi_wp2
    exact hK
  case stop =>
    rintro D c pre W hD _ hf
    exact hf.elim
  case body =>
    rintro l pre ⟨x, hx⟩ W hl ⟨ht, hr⟩ hlen
    have hxn := hm x hx.1 hx.2
    obtain ⟨gf, cf, rfl, hgf, hfv, hdf⟩ := hfv (by omega)
    have yf : ∀ p, p < n → W0.cell? ⟨gf, p, none⟩ = some (.slice (some ⟨fr p, 0, none⟩) nw nw) := fun p hp => (hb0.cell (p := ⟨gf, p, none⟩) hgf).trans (hfv p hp)
    have hs3 : ¬∃ p, p < n ∧ w.heap.size = fr p := fun ⟨p, hp, e⟩ => by have := hfl p hp; omega
    have hs5 : ¬∃ p, p < n ∧ w.heap.size + 1 = fr p := fun ⟨p, hp, e⟩ => by have := hfl p hp; omega
    have z3 : W.cell? ⟨w.heap.size, 0, none⟩ = some (.pointer (some ⟨bt, 0, none⟩)) := (cell_of_row _ _ _ _ _ _ ((ht.same _ (by omega) hs3).trans x3) : W.cell? ⟨w.heap.size, 0, none⟩ = _)
    have z5 : W.cell? ⟨w.heap.size + 1, 0, none⟩ = some (.slice (some ⟨g2, 0, none⟩) nw c2) := (cell_of_row _ _ _ _ _ _ ((ht.same _ (by omega) hs5).trans x5) : W.cell? ⟨w.heap.size + 1, 0, none⟩ = _)
    have zb : W.cell? ⟨bt, 2, none⟩ = some (.slice (some ⟨gf, 0, none⟩) n cf) := (cell_of_row _ _ _ _ _ _ ((ht.same bt (by omega) (fun ⟨p, hp, e⟩ => hdb p hp e.symm)).trans yx) : W.cell? ⟨bt, 2, none⟩ = _)
    have zf : W.cell? ⟨gf, x, none⟩ = some (.slice (some ⟨fr x, 0, none⟩) nw nw) := (show W.cell? ⟨gf, x, none⟩ = W0.cell? ⟨gf, x, none⟩ from World.cell?_of_block (ht.same gf (by omega) (fun ⟨p, hp, e⟩ => hdf p hp e.symm))).trans (yf x hxn)
    have hj := join_ok nw (fr x) g2 nw c2 _ T2 W.drew ⟨(hr x hxn).row, (hr x hxn).lt⟩ ⟨(y2.touch ht (fun ⟨p, hp, e⟩ => hd2 p hp e.symm)).row, y2.lt⟩ (hd2 x hxn) hnw
    have hi0 : (0 : Int) ≤ (x : Int) := by omega
    have hi1 : (x : Int) < (n : Int) := by omega
    have hmix : Tryd.prog.follows Departure.mixedOrders = true := by kernel_rfl
    dsimp only
    gi_wp2
    gi_region_with_o (refine ⟨trivial, ?_⟩; gi_at_call 36; refine (CallsIn.inRound l (callsIn_wide.2 hj)).mono ?_; rintro e w' ⟨rfl, hp', hg'⟩)
    all_goals
      gi_wp2
      refine ⟨KeepsFrom.of_grownBy (W := W) (row := some (fr x)) ⟨hg'.os, hg'.tape, hg'.output, hg'.size, hg'.block⟩ (fun j e => by cases e; have := hfl x hxn; omega), fun k hk => ?_, ht.grown (A := W) (o := some (fr x)) ⟨hg'.os, hg'.tape, hg'.output, hg'.size, hg'.block⟩ (fun g e => by cases e; exact .inl ⟨x, hxn, rfl⟩), fun p hp => ?_⟩
      · refine hg'.block k ?_ (fun e => ?_)
        · have := ht.size
          have := y1.glt
          simp at hk
          show k < W.heap.size
          omega
        · have e' : k = fr x := by simpa using e
          simp at hk
          rcases hk with hk | hk
          · exact hd0 x hxn (by omega)
          · exact hd1 x hxn (by omega)
      · rw [mvals_snoc]
        by_cases e : p = x
        · subst e
          rw [if_pos (by simp)]
          refine ⟨?_, orT_lt (hF.rows p hp).lt h2.lt⟩
          rw [hp'.row]
          congr 2
          refine wdRow_congr fun i _ => ?_
          by_cases hin : p ∈ mvals pre
          · rw [if_pos hin]; unfold orT; rw [Nat.or_assoc, Nat.or_self]
          · rw [if_neg hin]
        · have hq := hr p hp
          have e2 : (p ∈ mvals pre ++ [x]) ↔ p ∈ mvals pre := by simp [e]
          refine ⟨(hg'.block (fr p) hq.glt (fun q => e (hF.inj p x hp hxn (by simpa using q)))).trans ?_, ?_⟩
          · by_cases hin : p ∈ mvals pre
            · rw [if_pos (e2.2 hin)]; rw [if_pos hin] at hq; exact hq.row
            · rw [if_neg (fun h => hin (e2.1 h))]; rw [if_neg hin] at hq; exact hq.row
          · by_cases hin : p ∈ mvals pre
            · rw [if_pos (e2.2 hin)]; rw [if_pos hin] at hq; exact hq.lt
            · rw [if_neg (fun h => hin (e2.1 h))]; rw [if_neg hin] at hq; exact hq.lt
  case done =>
    rintro D ys W hD hys ⟨ht, hr⟩ hK
    gi_wp2
    have hgp := grownBy_putObj' W D (.deferred none)
    refine ⟨by simp, .inl ⟨_, _, rfl, run_takeDeferred hK, ?_⟩⟩
    refine ⟨.tuple #[], by simp [results, Tryd.results56, go_sem], rfl, ⟨fun p hp => ?_, hF.inj⟩, (Touch.of_below hb0).trans ?_⟩
    · have hq := hr p hp
      have hpm : (p ∈ mvals ys) ↔ bitAt T1 p = true := (hys p).trans ⟨fun h => h.2, fun h => ⟨by omega, h⟩⟩
      have hne : fr p ≠ D := by have := hfl p hp; omega
      have hrow : (W.putObj D (.deferred none)).heap[fr p]? = W.heap[fr p]? := World.putObj_heap_other hne
      by_cases hb : bitAt T1 p = true
      · rw [if_pos hb]; rw [if_pos (hpm.2 hb)] at hq; exact ⟨hrow.trans hq.row, hq.lt⟩
      · rw [if_neg hb]; rw [if_neg (fun h => hb (hpm.1 h))] at hq; exact ⟨hrow.trans hq.row, hq.lt⟩
    · exact ht.grown hgp (fun g e => .inr (by cases e; exact hD))
end Go.Proofs.YthgaeaihfbiolaaDoor
