import Derived.Test.YthgaeaihfbiolaaDoorEndA
import Derived.Deep.RegionHeld3
namespace Go.Proofs.YthgaeaihfbiolaaDoor
open Go.RowKit
attribute [local go_sem ↓] Go.wp_at_zero Go.wp_at_succ

/-- A branch ready to be asked: its nodes, and the rows of their parts. -/
structure BrAt (w : World) (ns : List NodeD) (vn : Value) (gl gr : Nat) : Prop where
  nodes : NodesAt 0 w vn ns
  ltl : gl < w.heap.size
  ltr : gr < w.heap.size
  left : ∀ i, i < ns.length → w.cell? ⟨gl, i, none⟩ = some (.int .i64 (leftOf ns i))
  right : ∀ i, i < ns.length → w.cell? ⟨gr, i, none⟩ = some (.int .i64 (rightOf ns i))
theorem BrAt.below {w w' : World} {ns : List NodeD} {vn : Value} {gl gr : Nat} (h : BrAt w ns vn gl gr) (hb : Below w.heap.size w w') : BrAt w' ns vn gl gr :=
  ⟨h.nodes.below hb, Nat.lt_of_lt_of_le h.ltl hb.size, Nat.lt_of_lt_of_le h.ltr hb.size, fun i hi => (hb.cell (p := ⟨gl, i, none⟩) h.ltl).trans (h.left i hi), fun i hi => (hb.cell (p := ⟨gr, i, none⟩) h.ltr).trans (h.right i hi)⟩

/-- A set of offsets is answered. -/
def EndsR (w : World) (t : ByteArray) (m : Nat) (P : Nat → Prop) (e : Ending) (w' : World) : Prop :=
  ∃ (g' cap' : Nat) (S' : List Bool), e = .returned (.slice (some ⟨g', 0, none⟩) m cap') ∧ BoolsAt w' g' S' ∧ S'.length = m ∧ IsSet t.size S' P ∧ Below w.heap.size w w'
/-- What is asked of l1Ends at node n. -/
def EndsC (ns : List NodeD) (n : Nat) : Prop :=
  ∀ (w : World) (ao : Option Addr) (c gl cl gr cr : Nat) (t : ByteArray) (g cap m : Nat) (S : List Bool) (F : Nat → Prop), BrAt w ns (.slice ao ns.length c) gl gr → BoolsAt w g S → S.length = m → IsSet t.size S F → t.size ≤ 4096 →
    Calls Tryd.prog 27 #[.agg #[.slice ao ns.length c, .slice (some ⟨gl, 0, none⟩) ns.length cl, .slice (some ⟨gr, 0, none⟩) ns.length cr, .string t], .int .i64 n, .slice (some ⟨g, 0, none⟩) m cap] w fun e w' => EndsR w t m (EndsAt t.data.toList (In (tOf ns n)) F) e w'

theorem row_four {w : World} {g : Nat} {a b c d : Value} {t : TypeId} (h : w.heap[g]? = some (.cells #[a, b, c, d] t (0, 0))) : w.cell? ⟨g, 0, none⟩ = some a ∧ w.cell? ⟨g, 1, none⟩ = some b ∧ w.cell? ⟨g, 2, none⟩ = some c ∧ w.cell? ⟨g, 3, none⟩ = some d := by
  have : ∀ o, w.cell? ⟨g, o, none⟩ = #[a, b, c, d][o]? := fun _ => cell_of_row _ _ _ _ _ _ h
  exact ⟨this 0, this 1, this 2, this 3⟩

def trues (A : List Bool) : Nat := A.countP id
theorem trues_le (A : List Bool) : trues A ≤ A.length := List.countP_le_length
theorem trues_pt : ∀ (A B : List Bool), A.length = B.length → (∀ i, A.getD i false = true → B.getD i false = true) → trues A ≤ trues B ∧ ((∃ i, B.getD i false = true ∧ A.getD i false = false) → trues A < trues B)
  | [], [], _, _ => ⟨Nat.le_refl _, fun ⟨i, h, _⟩ => by simp at h⟩
  | [], _ :: _, h, _ => by simp at h
  | _ :: _, [], h, _ => by simp at h
  | a :: A, b :: B, hl, h => by
    have ih := trues_pt A B (by simpa using hl) (fun i hi => by have := h (i + 1); simpa using this (by simpa using hi))
    have h0 : a = true → b = true := by have := h 0; simpa using this
    have e : ∀ (x : Bool) (X : List Bool), trues (x :: X) = trues X + (if x = true then 1 else 0) := by
      intro x X; simp [trues, List.countP_cons]
    rw [e, e]
    refine ⟨?_, ?_⟩
    · cases a <;> cases b <;> simp at h0 ⊢ <;> omega
    · rintro ⟨i, hb, ha⟩
      cases i with
      | zero =>
        have hb' : b = true := by simpa using hb
        have ha' : a = false := by simpa using ha
        subst hb' ha'
        simp
        omega
      | succ i =>
        have := ih.2 ⟨i, by simpa using hb, by simpa using ha⟩
        cases a <;> cases b <;> simp at h0 ⊢ <;> omega
theorem trues_or {A B : List Bool} (hl : A.length = B.length) (h : addsN A B A.length = true) : trues A + 1 ≤ trues (orL A B) := by
  refine (trues_pt A (orL A B) (orL_len A B).symm fun i hi => ?_).2 ?_
  · by_cases e : i < A.length
    · rw [orL_get _ _ e, hi]; rfl
    · rw [List.getD_eq_getElem?_getD, List.getElem?_eq_none (by omega)] at hi; cases hi
  · obtain ⟨i, hi, h2⟩ := List.any_eq_true.1 h
    simp at hi h2
    exact ⟨i, by rw [orL_get _ _ hi]; simp [h2.1], h2.2⟩
theorem adds_no {n : Nat} {A B : List Bool} {P Q : Nat → Prop} (hA : IsSet n A P) (hB : IsSet n B Q) (m : Nat) (hm : A.length = m) (h : addsN A B m = false) : ∀ j, Q j → P j := by
  intro j hj
  have hj' := hB.le j hj
  have h1 := (hB.iff j).2 hj
  rw [← hA.iff]
  cases hq : A.getD j false
  · exfalso
    have : addsN A B m = true := List.any_eq_true.2 ⟨j, by simp; have := hA.len; omega, by rw [h1, hq]; rfl⟩
    rw [h] at this
    cases this
  · rfl

theorem row_below' {w w' : World} {g : Nat} {o : Obj} (h : w.heap[g]? = some o) (hb : Below w.heap.size w w') : w'.heap[g]? = some o := (hb.block g (Array.getElem?_eq_some_iff.1 h).1).trans h
/-- Where l1Copied stands. -/
structure CopS (w wr : World) (ob : Obj) (g n m : Nat) (C : List Bool) (P : Nat → Prop) : Prop where
  below : Below w.heap.size w wr
  row : wr.heap[w.heap.size]? = some ob
  at_ : BoolsAt wr g C
  len : C.length = m
  set : IsSet n C P

def Cop1 (w : World) (ob : Obj) (t : ByteArray) (m : Nat) (b : Pt) (F : Nat → Prop) (mn : Nat) (cur k : Value) (wr : World) : Prop :=
  ∃ (gg cc kk : Nat) (C : List Bool), kk ≤ mn ∧ cur = .slice (some ⟨gg, 0, none⟩) m cc ∧ k = .int .i64 kk ∧ CopS w wr ob gg t.size m C (EndsAt t.data.toList (Pow (In b) kk) F)
def Cop2 (w : World) (ob : Obj) (t : ByteArray) (m : Nat) (b : Pt) (F : Nat → Prop) (kk : Nat) (mx : Int) (cur all k : Value) (wr : World) : Prop :=
  ∃ (gg cc ga ca k2 : Nat) (C A : List Bool), kk ≤ k2 ∧ (mx = -1 ∨ (k2 : Int) ≤ mx) ∧ cur = .slice (some ⟨gg, 0, none⟩) m cc ∧ all = .slice (some ⟨ga, 0, none⟩) m ca ∧ k = .int .i64 k2 ∧ CopS w wr ob gg t.size m C (EndsAt t.data.toList (Pow (In b) k2) F) ∧ BoolsAt wr ga A ∧ Hid (A.length = m) ∧ IsSet t.size A (fun j => ∃ i, kk ≤ i ∧ i ≤ k2 ∧ EndsAt t.data.toList (Pow (In b) i) F j) ∧ Hid (k2 ≤ kk + trues A)

set_option maxRecDepth 100000 in
set_option maxHeartbeats 2000000 in
theorem copied_ok (ns : List NodeD) (x : Nat) (hE : EndsC ns x) (w : World) (ao : Option Addr) (c gl cl gr cr : Nat) (t : ByteArray) (g cap m : Nat) (S : List Bool) (F : Nat → Prop) (mn : Nat) (mx : Int)
    (hbr : BrAt w ns (.slice ao ns.length c) gl gr) (hS : BoolsAt w g S) (hSm : S.length = m) (hF : IsSet t.size S F) (ht : t.size ≤ 4096) (hmn : mn ≤ 255) (hmx : mx = -1 ∨ ((mn : Int) ≤ mx ∧ mx ≤ 255)) :
    Calls Tryd.prog 52 #[.agg #[.slice ao ns.length c, .slice (some ⟨gl, 0, none⟩) ns.length cl, .slice (some ⟨gr, 0, none⟩) ns.length cr, .string t], .int .i64 x, .int .i64 mn, .int .i64 mx, .slice (some ⟨g, 0, none⟩) m cap] w fun e w' => EndsR w t m (EndsAt t.data.toList (In (.rep (tOf ns x) mn mx)) F) e w' := by
  have hE' := fun (W : World) (hb : Below w.heap.size w W) (g cap : Nat) (C : List Bool) (P : Nat → Prop) (h1 : BoolsAt W g C) (h2 : C.length = m) (h3 : IsSet t.size C P) => hE W ao c gl cl gr cr t g cap m C P (hbr.below hb) h1 h2 h3 ht
  have Hm : Hid (m = t.size + 1) := by show _ = _; rw [← hSm]; exact hF.len
  have hm5 : m ≤ 1048576 := by rw [Hm.out]; omega
  clear hE hbr
  generalize tOf ns x = b at hE' ⊢
  have hb0 : Below w.heap.size w (w.alloc (.cells #[.slice ao ns.length c, .slice (some ⟨gl, 0, none⟩) ns.length cl, .slice (some ⟨gr, 0, none⟩) ns.length cr, .string t] 69)) := (Below.refl _ _).alloc (Nat.le_refl _) _
  go_enter Tryd.func52, Tryd.ntmps52
  go_wp2
  go_loopw [11, 12] (fun cur k wr => Cop1 w (.cells #[.slice ao ns.length c, .slice (some ⟨gl, 0, none⟩) ns.length cl, .slice (some ⟨gr, 0, none⟩) ns.length cr, .string t] 69 (0, 0)) t m b F mn cur k wr)
    (fun _ k _ => mn - (intOf k).toNat)
  case atStart => exact ⟨g, cap, 0, S, Nat.zero_le _, rfl, rfl, hb0, heap_alloc_new _ _, hS.below hb0, hSm, hF.congr fun j => (ends_pow_zero (fun i hi => by have := hF.le i hi; simpa using this) j).symm⟩
  case round =>
    obtain ⟨gg, cc, kk, C, hkk, rfl, rfl, hC⟩ := hrel
    obtain ⟨a0, a1, a2, a3⟩ := row_four hC.row
    by_cases hlt : kk < mn
    · have hi1 : (kk : Int) < (mn : Int) := by omega
      go_wp2_with fail
      refine (hE' _ hC.below gg cc C _ hC.at_ hC.len hC.set).mono ?_
      rintro e w2 ⟨g2, c2, S2, rfl, hb2, hl2, hs2, hw2⟩
      go_wp2
      go_roundw
      case rel => exact ⟨g2, c2, kk + 1, S2, by omega, rfl, by go_num, below_step hC.below hC.below.size hw2, row_below' hC.row hw2, hb2, hl2, hs2.congr fun j => (ends_pow_succ kk j).symm⟩
      case measure => simp [intOf]; omega
    · have hkm : kk = mn := by omega
      subst hkm
      have hi1 : ¬(kk : Int) < (kk : Int) := by omega
      go_wp2
      clear a0 a1 a2 a3
      go_loopw [11, 13, 14] (fun cur all k wr => Cop2 w (.cells #[.slice ao ns.length c, .slice (some ⟨gl, 0, none⟩) ns.length cl, .slice (some ⟨gr, 0, none⟩) ns.length cr, .string t] 69 (0, 0)) t m b F kk mx cur all k wr)
        (fun _ _ k _ => kk + m + 1 - (intOf k).toNat)
      case atStart => exact ⟨gg, cc, gg, cc, kk, C, C, Nat.le_refl _, by omega, rfl, rfl, rfl, hC, hC.at_, hC.len, hC.set.congr fun j => ⟨fun h => ⟨kk, Nat.le_refl _, Nat.le_refl _, h⟩, fun ⟨i, h1, h2, h⟩ => (show i = kk by omega) ▸ h⟩, Nat.le_add_right _ _⟩
      case round =>
        clear hC hi1 hkk hlt
        obtain ⟨gg, cc, ga, ca, k2, C, A, hk2, hkx, rfl, rfl, rfl, hC, hA, HAl, hAs, HT⟩ := hrel
        obtain ⟨a0, a1, a2, a3⟩ := row_four hC.row
        by_cases hgo : mx = -1 ∨ (k2 : Int) < mx
        · have hk3 : k2 ≤ kk + m := by have := trues_le A; rw [HAl.out] at this; have := HT.out; omega
          have hcond : (Hid (mx = -1) ∧ (mx == -1) = true) ∨ ((mx == -1) = false ∧ (k2 : Int) < mx) := by
            by_cases e : mx = -1
            · exact .inl ⟨e, by rw [e]; rfl⟩
            · exact .inr ⟨beq_eq_false_iff_ne.2 e, by omega⟩
          have hw62 : IntKind.i64.wrap ((k2 : Int) + 1) = (k2 : Int) + 1 := by rw [IntKind.wrap_i64]; omega
          rcases hcond with ⟨hx1, hx2⟩ | ⟨hx1, hx2⟩
          all_goals
            go_wp2_with fail
            refine (hE' _ hC.below gg cc C _ hC.at_ hC.len hC.set).mono ?_
            rintro e w2 ⟨g2, c2, S2, rfl, hb2, hl2, hs2, hw2⟩
            go_wp2_with fail
            refine (adds_ok m A S2 ga g2 ca c2 _ (hA.below hw2) hb2 HAl.out hl2 hm5).mono ?_
            rintro e w3 ⟨rfl, hw3⟩
            have hA3 := (hA.below hw2).below hw3
            have hB3 := hb2.below hw3
            have hZ := below_step (below_step hC.below hC.below.size hw2) (below_step hC.below hC.below.size hw2).size hw3
            have hs2' : IsSet t.size S2 (EndsAt t.data.toList (Pow (In b) (k2 + 1)) F) := hs2.congr fun j => (ends_pow_succ k2 j).symm
            have hR3 := row_below' (row_below' hC.row hw2) hw3
            cases hq : addsN A S2 m
            · go_wp2
              have hstop := ends_stop (u := t.data.toList) (L := In b) (F := F) (mn := kk) (K := k2) hk2 (adds_no hAs hs2' m HAl.out hq)
              refine bodyPost_ret (v := .slice (some ⟨ga, 0, none⟩) m ca) (by simp [results, Tryd.results52, go_sem]) rfl ⟨ga, ca, A, rfl, hA3, HAl.out, hAs.congr fun j => ?_, hZ⟩
              rw [ends_rep]
              constructor
              · rintro ⟨i, h1, h2, h⟩
                exact ⟨i, ⟨h1, by omega⟩, h⟩
              · rintro ⟨i, h1, h⟩
                exact hstop i h1.1 j h
            · go_wp2_with fail
              refine (or_ok m A S2 ga g2 ca c2 _ hA3 hB3 HAl.out hl2 hm5).mono ?_
              rintro e w4 ⟨rfl, hO, hw4⟩
              go_wp2
              go_roundw
              case rel =>
                refine ⟨g2, c2, w3.heap.size, m, k2 + 1, S2, orL A S2, by omega, by omega, rfl, rfl, by go_num, ⟨below_step hZ hZ.size hw4, row_below' hR3 hw4, hB3.below hw4, hl2, hs2'⟩, hO, by show _ = _; rw [orL_len]; exact HAl.out, (isSet_or hAs hs2').congr fun j => ?_, ?_⟩
                · constructor
                  · rintro (⟨i, h1, h2, h⟩ | h)
                    · exact ⟨i, h1, by omega, h⟩
                    · exact ⟨k2 + 1, by omega, Nat.le_refl _, h⟩
                  · rintro ⟨i, h1, h2, h⟩
                    by_cases e : i ≤ k2
                    · exact .inl ⟨i, h1, e, h⟩
                    · obtain rfl : i = k2 + 1 := by omega
                      exact .inr h
                · have := trues_or (A := A) (B := S2) (by rw [HAl.out, hl2]) (by rw [HAl.out]; exact hq)
                  have := HT.out
                  show _ ≤ _
                  omega
              case measure => simp [intOf]; omega
        · have hx1 : (mx == -1) = false := beq_eq_false_iff_ne.2 (by omega)
          have hx2 : ¬(k2 : Int) < mx := by omega
          go_wp2
          refine bodyPost_ret (v := .slice (some ⟨ga, 0, none⟩) m ca) (by simp [results, Tryd.results52, go_sem]) rfl ⟨ga, ca, A, rfl, hA, HAl.out, hAs.congr fun j => ?_, hC.below⟩
          rw [ends_rep]
          constructor
          · rintro ⟨i, h1, h2, h⟩
            exact ⟨i, ⟨h1, by omega⟩, h⟩
          · rintro ⟨i, h1, h⟩
            exact ⟨i, h1.1, by have := h1.2; omega, h⟩
end Go.Proofs.YthgaeaihfbiolaaDoor
