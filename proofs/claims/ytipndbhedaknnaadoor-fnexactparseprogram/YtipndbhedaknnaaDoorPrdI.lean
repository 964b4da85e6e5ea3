import Derived.Test.YtipndbhedaknnaaDoorPrgT
import Derived.Test.YtipndbhedaknnaaDoorActI
import Derived.Deep.CutRange
import Derived.Deep.Cut
import Derived.Deep.RegionLaw
namespace Go.Proofs.YtipndbhedaknnaaDoor
open Go.RowKit
attribute [local go_sem ↓] Go.wp_at_zero Go.wp_at_succ

/- THE PROGRAM's READER, behind a pointer. -/
/-- A step that turns nothing but block br and cells from B on. -/
structure MildB (B br : Nat) (A A' : World) : Prop where
  os : A'.os = A.os
  tape : A'.tape = A.tape
  output : A'.output = A.output
  size : A.heap.size ≤ A'.heap.size
  block : ∀ i, i < A.heap.size → i ≠ br → (B ≤ i → ∀ o, A.heap[i]? = some o → o.isCells = false) → A'.heap[i]? = A.heap[i]?
theorem MildB.refl (B br : Nat) (A : World) : MildB B br A A := ⟨rfl, rfl, rfl, Nat.le_refl _, fun _ _ _ _ => rfl⟩
theorem MildB.trans {B br : Nat} {X Y Z : World} (h : MildB B br X Y) (k : MildB B br Y Z) : MildB B br X Z :=
  ⟨k.os.trans h.os, k.tape.trans h.tape, k.output.trans h.output, Nat.le_trans h.size k.size, fun i hi h1 h2 => by
    have e := h.block i hi h1 h2
    exact (k.block i (Nat.lt_of_lt_of_le hi h.size) h1 (fun hb o ho => h2 hb o (by rw [← e]; exact ho))).trans e⟩
theorem MildB.below {B br : Nat} {A A' : World} (h : Below A.heap.size A A') : MildB B br A A' := ⟨h.os, h.tape, h.output, h.size, fun i hi _ _ => h.block i hi⟩
theorem MildB.field {B br b : Nat} {A A' : World} {ls : List (List UInt8)} {bad : Bool} {g o cap : Nat} (hf : FldAt A b ls bad g o cap) (hB : B ≤ b) (h : A.grownBy A' (some b)) : MildB B br A A' :=
  ⟨h.os, h.tape, h.output, h.size, fun i hi _ h2 => h.block i hi (fun e => by
    obtain rfl : i = b := by simpa using e
    have := h2 hB _ hf.box
    cases this)⟩
theorem MildB.setBr {B br : Nat} (A : World) (j : Nat) (v : Value) : MildB B br A (A.setCell ⟨br, j, none⟩ v) := ⟨rfl, rfl, rfl, by simp, fun i _ h1 _ => Below.heap_setCell A _ _ i h1⟩
structure PrAt (B br : Nat) (W : World) (sv : Value) (cv : Nat → Value) (p : PrD) : Prop where
  box : W.heap[br]? = some (.cells #[.int .i64 p.lim, .int .i64 p.most, sv] 50 (0, 0))
  V : PrV B W sv cv p.states
theorem PrAt.c0 {B br : Nat} {W : World} {sv : Value} {cv : Nat → Value} {p : PrD} (h : PrAt B br W sv cv p) : W.cell? ⟨br, 0, none⟩ = some (.int .i64 p.lim) := by simp [World.cell?, h.box]
theorem PrAt.c1 {B br : Nat} {W : World} {sv : Value} {cv : Nat → Value} {p : PrD} (h : PrAt B br W sv cv p) : W.cell? ⟨br, 1, none⟩ = some (.int .i64 p.most) := by simp [World.cell?, h.box]
theorem PrAt.c2 {B br : Nat} {W : World} {sv : Value} {cv : Nat → Value} {p : PrD} (h : PrAt B br W sv cv p) : W.cell? ⟨br, 2, none⟩ = some sv := by simp [World.cell?, h.box]
theorem PrAt.f {B br : Nat} {W : World} {sv : Value} {cv : Nat → Value} {p : PrD} (h : PrAt B br W sv cv p) (j : Nat) : W.frozen? ⟨br, j, none⟩ = false := by simp [World.frozen?, h.box]
theorem row_ne {W : World} {B n sz b : Nat} {e t : TypeId} {v : Value} {xs : List Value} {c : Array Value} {f : Nat × Nat} (h : W.ownsRow B e sz v n xs) (hb : W.heap[b]? = some (.cells c t f)) (hte : t ≠ e) : v.ownBlock ≠ some b := by
  intro e1
  rcases h.2 with ⟨rfl, _⟩ | ⟨g, cap, cur, rfl, _, h2, _⟩
  · cases e1
  · obtain rfl : g = b := by simpa [Value.ownBlock] using e1
    rw [hb] at h2
    cases h2
    exact hte rfl
theorem PrAt.field {B br b : Nat} {W W' : World} {sv : Value} {cv : Nat → Value} {p : PrD} {ls : List (List UInt8)} {bad : Bool} {g o cap : Nat} (h : PrAt B br W sv cv p) (hf : FldAt W b ls bad g o cap) (hne : br ≠ b) (hg : W.grownBy W' (some b)) : PrAt B br W' sv cv p := by
  refine ⟨(hg.block br (Array.getElem?_eq_some_iff.1 h.box).1 (by simpa using hne)).trans h.box, h.V.keep fun k hk => hg.block k (h.V.lt hk).2 (fun e => ?_)⟩
  obtain rfl : k = b := by simpa using e
  rcases hk with hk | ⟨i, hi, hk⟩
  · exact row_ne h.V.row hf.box (by decide) hk
  · exact row_ne (h.V.cas i hi) hf.box (by decide) hk
theorem PrAt.below {B br : Nat} {W W' : World} {sv : Value} {cv : Nat → Value} {p : PrD} (h : PrAt B br W sv cv p) (hb : Below W.heap.size W W') : PrAt B br W' sv cv p :=
  ⟨(hb.block br (Array.getElem?_eq_some_iff.1 h.box).1).trans h.box, h.V.below hb⟩
/-- What a line leaves. -/
def PTo (B br : Nat) (w : World) (p : PrD) (rd : LineD × Bool) (e : Ending) (w' : World) : Prop :=
  MildB B br w w' ∧ ∃ sv cv, (rd.2 = false ∧ e = .returned (.int .i64 2) ∧ PrAt B br w' sv cv p) ∨
    (rd.2 = true ∧ orderF p rd.1 = false ∧ e = .returned (.int .i64 3) ∧ PrAt B br w' sv cv p) ∨
    (rd.2 = true ∧ orderF p rd.1 = true ∧ manyF p rd.1 = true ∧ e = .returned (.int .i64 4) ∧ PrAt B br w' sv cv p) ∨
    (rd.2 = true ∧ orderF p rd.1 = true ∧ manyF p rd.1 = false ∧ e = .returned (.int .i64 0) ∧ PrAt B br w' sv cv (stepF p rd.1))

theorem limit_rd (ls : List (List UInt8)) : readL ([108, 105, 109, 105, 116] :: ls) = if ls.length = 2 then (⟨108, headN ls, headN ls.tail, [], .zero⟩, btw (headN ls) 1 4096 && btw (headN ls.tail) 1 4000) else (.zero, false) := by
  unfold readL headN
  by_cases h : ls.length = 2
  · rw [if_pos h, if_pos ⟨rfl, by simp [h]⟩]
    rcases ls with _ | ⟨a, _ | ⟨b, r⟩⟩
    · cases h
    · cases h
    · rfl
  · rw [if_neg h, if_neg (fun x => h (by simpa using x.2))]
    simp
theorem limit_good (ls : List (List UInt8)) : (readL ([108, 105, 109, 105, 116] :: ls)).2 = (!((false || !btw (headN ls) 1 4096) || !btw (headN ls.tail) 1 4000) && decide (ls.tail.tail.length = 0)) := by
  rw [limit_rd]
  have z : headN ([] : List (List UInt8)) = -1 := by decide
  have zb : btw (-1) 1 4096 = false := by decide
  have zc : btw (-1) 1 4000 = false := by decide
  rcases ls with _ | ⟨a, _ | ⟨b, _ | ⟨c, r⟩⟩⟩
  · simp [z, zb]
  · simp [z, zc]
  · simp
  · simp
theorem limit_vals {ls : List (List UInt8)} (h : (readL ([108, 105, 109, 105, 116] :: ls)).2 = true) : (readL ([108, 105, 109, 105, 116] :: ls)).1 = ⟨108, natOf (headN ls), natOf (headN ls.tail), [], .zero⟩ ∧ 0 ≤ natOf (headN ls) := by
  rw [limit_rd] at h ⊢
  by_cases h2 : ls.length = 2
  · rw [if_pos h2] at h ⊢
    simp only [Bool.and_eq_true] at h
    rw [natOf_in (by omega) h.1, natOf_in (by omega) h.2]
    refine ⟨rfl, ?_⟩
    have := h.1
    unfold btw at this
    simp at this
    omega
  · rw [if_neg h2] at h
    cases h
theorem PrAt.lim {B br : Nat} {W : World} {sv : Value} {cv : Nat → Value} {p : PrD} (h : PrAt B br W sv cv p) (hbr : br < B) (x y : Int) : PrAt B br ((W.setCell ⟨br, 0, none⟩ (.int .i64 x)).setCell ⟨br, 1, none⟩ (.int .i64 y)) sv cv ⟨x, y, p.states⟩ := by
  refine ⟨?_, h.V.keep fun k hk => ?_⟩
  · rw [heap_setCell_same _ br 1 _ _ _ (heap_setCell_same _ br 0 _ _ _ h.box)]; rfl
  · have := (h.V.lt hk).1
    rw [Below.heap_setCell _ _ _ _ (by show k ≠ br; omega), Below.heap_setCell _ _ _ _ (by show k ≠ br; omega)]
set_option maxRecDepth 100000 in
set_option maxHeartbeats 2000000 in
theorem limit_ok (B br b : Nat) (sv : Value) (cv : Nat → Value) (p : PrD) (ls : List (List UInt8)) (g o cap : Nat) (w : World) (h : PrAt B br w sv cv p) (hf : FldAt w b ls false g o cap) (hB : B ≤ b) (hbr : br < B) (hlim : 0 ≤ p.lim) (hs1 : (ls.headD []).length ≤ 1048576) (hs2 : (ls.tail.headD []).length ≤ 1048576) :
    Calls Tryd.prog 17 #[.pointer (some ⟨br, 0, none⟩), .pointer (some ⟨b, 0, none⟩)] w (PTo B br w p (readL ([108, 105, 109, 105, 116] :: ls))) := by
  have hne : br ≠ b := by omega
  have hn1 := number_ok b ls false g o cap 1 4096 w hf hs1 (by omega)
  have Hgd : Hid _ := limit_good ls
  have Hvl : Hid _ := @limit_vals ls
  generalize readL ([108, 105, 109, 105, 116] :: ls) = rd at *
  have hnn2 := fun f g1 o1 cap1 W (hh : FldAt W b ls.tail f g1 o1 cap1) => number_ok b ls.tail f g1 o1 cap1 1 4000 W hh hs2 (by omega)
  obtain ⟨m1, hm1⟩ : ∃ m1, natOf (headN ls) = m1 := ⟨_, rfl⟩
  obtain ⟨m2, hm2⟩ : ∃ m2, natOf (headN ls.tail) = m2 := ⟨_, rfl⟩
  rw [hm1] at hn1 Hvl
  rw [hm2] at hnn2 Hvl
  clear hm1 hm2
  obtain ⟨lim, most, ss⟩ := p
  go_enter Tryd.func17, Tryd.ntmps17
  go_wp2_with fail
  refine hn1.mono ?_
  rintro e w1 ⟨rfl, hg1, g1, o1, cap1, h1⟩
  go_wp2_with fail
  refine (hnn2 _ _ _ _ w1 h1).mono ?_
  rintro e w2 ⟨rfl, hg2, g2, o2, cap2, h2⟩
  have P1 := h.field hf hne hg1
  have P2 := P1.field h1 hne hg2
  have M2 : MildB B br w w2 := (MildB.field hf hB hg1).trans (MildB.field h1 hB hg2)
  have hag := allGood_ok b _ _ g2 o2 cap2 w2 h2 rd.2 Hgd.out.symm
  have c0 := P2.c0
  have c1 := P2.c1
  have f0 := P2.f 0
  have f1 := P2.f 1
  dsimp only at c0 c1 hlim
  clear hn1 hnn2
  cases hr : rd.2 with
  | false =>
    rw [hr] at hag
    go_wp2_with (go_at_call 36; refine hag.mono ?_; rintro e w' ⟨rfl, hw'⟩; subst w')
    go_ret
    exact ⟨M2, sv, cv, .inl ⟨hr, rfl, P2⟩⟩
  | true =>
    rw [hr] at hag
    obtain ⟨hv, hm0⟩ := Hvl.out hr
    have Hv : Hid _ := hv
    clear hv
    by_cases hl : lim = 0
    · have ho : orderF ⟨lim, most, ss⟩ rd.1 = true := by rw [Hv.out]; unfold orderF; simp [hl]
      have hmn : manyF ⟨lim, most, ss⟩ rd.1 = false := by rw [Hv.out]; rfl
      have hst : stepF ⟨lim, most, ss⟩ rd.1 = ⟨m1, m2, ss⟩ := by rw [Hv.out]; rfl
      have PN := P2.lim hbr m1 m2
      have HO : Hid _ := ho
      have HM : Hid _ := hmn
      have HT : Hid _ := hst
      clear ho hmn hst
      subst hl
      go_wp2_with (go_at_call 36; refine hag.mono ?_; rintro e w' ⟨rfl, hw'⟩; subst w')
      go_ret
      exact ⟨(M2.trans (MildB.setBr _ 0 _)).trans (MildB.setBr _ 1 _), sv, cv, .inr (.inr (.inr ⟨hr, HO.out, HM.out, rfl, by rw [HT.out]; exact PN⟩))⟩
    · have ho : orderF ⟨lim, most, ss⟩ rd.1 = false := by rw [Hv.out]; unfold orderF; simp; omega
      have HO : Hid _ := ho
      have hl' : (lim != 0) = true := by simpa using hl
      clear ho hl
      go_wp2_with (go_at_call 36; refine hag.mono ?_; rintro e w' ⟨rfl, hw'⟩; subst w')
      go_ret
      exact ⟨M2, sv, cv, .inr (.inl ⟨hr, HO.out, rfl, P2⟩)⟩

theorem state_rd (ls : List (List UInt8)) : readL ([115, 116, 97, 116, 101] :: ls) = if ls.length = 1 then (⟨115, headN ls, 0, [], .zero⟩, btw (headN ls) 0 255) else (.zero, false) := by
  unfold readL headN
  rw [if_neg (fun x => by have := x.1; simp at this)]
  by_cases h : ls.length = 1
  · rw [if_pos h, if_pos ⟨rfl, by simp [h]⟩]
    rcases ls with _ | ⟨a, r⟩
    · cases h
    · rfl
  · rw [if_neg h, if_neg (fun x => h (by simpa using x.2))]
    simp
theorem state_good (ls : List (List UInt8)) : (readL ([115, 116, 97, 116, 101] :: ls)).2 = (!(false || !btw (headN ls) 0 255) && decide (ls.tail.length = 0)) := by
  rw [state_rd]
  have z : headN ([] : List (List UInt8)) = -1 := by decide
  have zb : btw (-1) 0 255 = false := by decide
  rcases ls with _ | ⟨a, _ | ⟨b, r⟩⟩
  · simp [z, zb]
  · simp
  · simp
theorem state_vals {ls : List (List UInt8)} (h : (readL ([115, 116, 97, 116, 101] :: ls)).2 = true) : (readL ([115, 116, 97, 116, 101] :: ls)).1 = ⟨115, natOf (headN ls), 0, [], .zero⟩ := by
  rw [state_rd] at h ⊢
  by_cases h2 : ls.length = 1
  · rw [if_pos h2] at h ⊢
    rw [natOf_in (by omega) h]
  · rw [if_neg h2] at h
    cases h
theorem PrAt.push {B br : Nat} {W W' : World} {sv : Value} {cv : Nat → Value} {p : PrD} (h : PrAt B br W sv cv p) (hbr : br < B) {s : StD} (hs : s.cases = []) {g' cap' : Nat}
    (own : W'.ownsRow B 45 10 (.slice (some ⟨g', 0, none⟩) (p.states.length + 1) cap') (p.states.length + 1) (stsCells cv p.states ++ stCells (.slice none 0 0) s)) (gr : W.grownBy W' sv.ownBlock) (hat : sv.ownBlock = some g' ∨ W.heap.size ≤ g') :
    PrAt B br (W'.setCell ⟨br, 2, none⟩ (.slice (some ⟨g', 0, none⟩) (p.states.length + 1) cap')) (.slice (some ⟨g', 0, none⟩) (p.states.length + 1) cap') (updV cv p.states.length (.slice none 0 0)) ⟨p.lim, p.most, p.states ++ [s]⟩ ∧ W'.heap[br]? = some (.cells #[.int .i64 p.lim, .int .i64 p.most, sv] 50 (0, 0)) := by
  have hb' : W'.heap[br]? = some (.cells #[.int .i64 p.lim, .int .i64 p.most, sv] 50 (0, 0)) := (gr.block br (Array.getElem?_eq_some_iff.1 h.box).1 (fun e => by have := (h.V.lt (.inl e.symm)).1; omega)).trans h.box
  have V' := h.V.push hs own gr hat
  refine ⟨⟨?_, V'.keep fun k hk => ?_⟩, hb'⟩
  · rw [heap_setCell_same _ br 2 _ _ _ hb']; rfl
  · have := (V'.lt hk).1
    rw [Below.heap_setCell _ _ _ _ (by show k ≠ br; omega)]
theorem MildB.row {B br : Nat} {A A' : World} {sv : Value} {cv : Nat → Value} {ss : List StD} (h : PrV B A sv cv ss) (hg : A.grownBy A' sv.ownBlock) : MildB B br A A' :=
  ⟨hg.os, hg.tape, hg.output, hg.size, fun i hi _ h2 => hg.block i hi (fun e => by
    rcases h.row.2 with ⟨rfl, _⟩ | ⟨g, cap, cur, rfl, h1, h3, _⟩
    · cases e
    · obtain rfl : i = g := by simpa [Value.ownBlock] using e
      have := h2 h1 _ h3
      cases this)⟩
set_option maxRecDepth 100000 in
set_option maxHeartbeats 2000000 in
theorem state_ok (B br b : Nat) (sv : Value) (cv : Nat → Value) (p : PrD) (ls : List (List UInt8)) (g o cap : Nat) (w : World) (h : PrAt B br w sv cv p) (hf : FldAt w b ls false g o cap) (hB : B ≤ b) (hbr : br < B) (hlim : 0 ≤ p.lim) (hfew : p.states.length ≤ 200) (hs1 : (ls.headD []).length ≤ 1048576) :
    Calls Tryd.prog 18 #[.pointer (some ⟨br, 0, none⟩), .pointer (some ⟨b, 0, none⟩)] w (PTo B br w p (readL ([115, 116, 97, 116, 101] :: ls))) := by
  have hne : br ≠ b := by omega
  have hblt := hf.lt
  have hn1 := number_ok b ls false g o cap 0 255 w hf hs1 (by omega)
  have Hgd : Hid _ := state_good ls
  have Hvl : Hid _ := @state_vals ls
  generalize readL ([115, 116, 97, 116, 101] :: ls) = rd at *
  obtain ⟨m1, hm1⟩ : ∃ m1, natOf (headN ls) = m1 := ⟨_, rfl⟩
  rw [hm1] at hn1 Hvl
  clear hm1
  obtain ⟨lim, most, ss⟩ := p
  obtain ⟨ao, scap, hsv⟩ : ∃ ao scap, sv = .slice ao ss.length scap := by
    rcases h.V.row.2 with ⟨rfl, h0⟩ | ⟨gg, cc, _, rfl, _⟩
    · exact ⟨none, 0, by rw [show ss.length = 0 from h0]⟩
    · exact ⟨_, _, rfl⟩
  subst hsv
  go_enter Tryd.func18, Tryd.ntmps18
  go_wp2_with fail
  refine hn1.mono ?_
  rintro e w1 ⟨rfl, hg1, g1, o1, cap1, h1⟩
  have P1 := h.field hf hne hg1
  have M1 : MildB B br w w1 := MildB.field hf hB hg1
  have hag := allGood_ok b _ _ g1 o1 cap1 w1 h1 rd.2 Hgd.out.symm
  have c0 := P1.c0
  have c2 := P1.c2
  have f2 := P1.f 2
  have hw1 : B ≤ w1.heap.size := by have := hg1.size; omega
  dsimp only at c0 hlim hfew
  clear hn1
  cases hr : rd.2 with
  | false =>
    rw [hr] at hag
    go_wp2_with (go_at_call 36; refine hag.mono ?_; rintro e w' ⟨rfl, hw'⟩; subst w')
    go_ret
    exact ⟨M1, _, cv, .inl ⟨hr, rfl, P1⟩⟩
  | true =>
    rw [hr] at hag
    have Hv : Hid _ := Hvl.out hr
    by_cases hl : lim = 0
    · have HO : Hid (orderF ⟨lim, most, ss⟩ rd.1 = false) := by show _ = _; rw [Hv.out]; unfold orderF; simp [hl]
      subst hl
      go_wp2_with (go_at_call 36; refine hag.mono ?_; rintro e w' ⟨rfl, hw'⟩; subst w')
      go_ret
      exact ⟨M1, _, cv, .inr (.inl ⟨hr, HO.out, rfl, P1⟩)⟩
    have HO : Hid (orderF ⟨lim, most, ss⟩ rd.1 = true) := by show _ = _; rw [Hv.out]; unfold orderF; simp; omega
    have hl' : (lim == 0) = false := by simpa using hl
    by_cases h200 : ss.length = 200
    · have HM : Hid (manyF ⟨lim, most, ss⟩ rd.1 = true) := by show _ = _; rw [Hv.out]; unfold manyF; simp [h200]
      rw [h200] at c2
      clear hl
      go_wp2_with (go_at_call 36; refine hag.mono ?_; rintro e w' ⟨rfl, hw'⟩; subst w')
      go_ret
      exact ⟨M1, _, cv, .inr (.inr (.inl ⟨hr, HO.out, HM.out, rfl, P1⟩))⟩
    have HM : Hid (manyF ⟨lim, most, ss⟩ rd.1 = false) := by show _ = _; rw [Hv.out]; unfold manyF; simp [h200]
    have HT : Hid (stepF ⟨lim, most, ss⟩ rd.1 = ⟨lim, most, ss ++ [.new m1]⟩) := by show _ = _; rw [Hv.out]; rfl
    have h200' : ((ss.length : Int) == 200) = false := by simp; omega
    obtain ⟨i0, hi, hz0, hz1, hz2⟩ := info_parts Tryd.infoState
    clear hl h200
    go_upto_region 8 with (go_at_call 36; refine hag.mono ?_; rintro e w' ⟨rfl, hw'⟩; subst w')
    go_wp2_with (at_builtin; refine wpList_append_szW rfl (.tmp 32) (.tmp 35) 22 rfl w1 #[.slice none 0 0, .int .i64 0, .int .i64 0, .int .i64 0, .string ⟨#[]⟩, .bool false, .int .i64 0, .int .i64 0, .string ⟨#[]⟩, .int .i64 m1] 45 rfl w1.heap.size rfl B i0 _ 10 112 Tryd.underlying22 hi hz0 hz1 hz2 rfl (by omega) _ ss.length (stsCells cv ss) rfl P1.V.row rfl rfl (by simp [Value.oneCell']) (by omega) (by omega) hw1 ?_; intro g' cap' w4 own4 grow4 at4; obtain ⟨PN, hb4⟩ := P1.push hbr (s := .new m1) rfl own4 grow4 at4; have d2 : w4.cell? ⟨br, 2, none⟩ = some (.slice ao ss.length scap) := cell_of_row w4 br 2 _ _ _ hb4; have k2 : w4.frozen? ⟨br, 2, none⟩ = false := frozen_of_row _ _ 2 _ _ hb4)
    go_ret
    exact ⟨(M1.trans (MildB.row P1.V grow4)).trans (MildB.setBr _ 2 _), _, _, .inr (.inr (.inr ⟨hr, HO.out, HM.out, rfl, by rw [HT.out]; exact PN⟩))⟩
end Go.Proofs.YtipndbhedaknnaaDoor
