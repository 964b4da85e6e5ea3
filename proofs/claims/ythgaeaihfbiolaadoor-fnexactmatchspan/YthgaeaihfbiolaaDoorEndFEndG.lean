import Derived.Test.YthgaeaihfbiolaaDoorEndE
namespace Go.Proofs.YthgaeaihfbiolaaDoor
open Go.RowKit
attribute [local go_sem ↓] Go.wp_at_zero Go.wp_at_succ

/-- Whether a branch has text[a:e) in its place. -/
def BelongsP (b : BranchD) (t : ByteArray) (a e : Nat) (cl : Bool) : Prop := placedB b.bol b.eol t.size a e cl = true ∧ In (tOf b.nodes (b.nodes.length - 1)) ((t.data.toList.drop a).take (e - a))
def SpanR (w : World) (P : Prop) (r : Ending) (w' : World) : Prop := ∃ b : Bool, r = .returned (.bool b) ∧ (b = true ↔ P) ∧ Below w.heap.size w w'

theorem below3 {w a b c d : World} (h : Below w.heap.size w a) (h1 : Below a.heap.size a b) (h2 : Below b.heap.size b c) (h3 : Below c.heap.size c d) : Below w.heap.size w d := by
  have k1 := below_step h h.size h1
  have k2 := below_step k1 k1.size h2
  exact below_step k2 k2.size h3

set_option maxRecDepth 100000 in
set_option maxHeartbeats 4000000 in
theorem belongs_ok {lo : Nat} (bd : BranchD) (ao : Option Addr) (c : Nat) (t : ByteArray) (a e : Nat) (cl : Bool) (w : World) (hs : NodesAt lo w (.slice ao bd.nodes.length c) bd.nodes) (hn : bd.nodes.length ≤ 1048576) (hk : kidsB bd.nodes = true) (hnb : bd.nodes.all nodeB = true)
    (ha : ∀ i, i < bd.nodes.length → arity (kindAt bd.nodes i) ≤ (stk bd.nodes i).length) (hpos : 0 < bd.nodes.length) (hae : a ≤ e) (het : e ≤ t.size) (ht : t.size ≤ 4096) :
    Calls Tryd.prog 11 #[.agg #[.bool bd.bol, .bool bd.eol, .slice ao bd.nodes.length c], .string t, .int .i64 a, .int .i64 e, .bool cl] w fun r w' => SpanR w (BelongsP bd t a e cl) r w' := by
  obtain ⟨bol, eol, ns⟩ := bd
  unfold BelongsP
  dsimp only at *
  have hb0 : Below w.heap.size w (w.alloc (.cells #[.bool bol, .bool eol, .slice ao ns.length c] 37)) := (Below.refl _ _).alloc (Nat.le_refl _) _
  have k0 : (w.alloc (.cells #[.bool bol, .bool eol, .slice ao ns.length c] 37)).heap[w.heap.size]? = some (.cells #[.bool bol, .bool eol, .slice ao ns.length c] 37 (0, 0)) := heap_alloc_new _ _
  have hE := ends_ok ns ha hnb (ns.length - 1) (by omega)
  have hReady := fun (W : World) (hb : Below w.heap.size w W) => ready_ok bol eol ao c ns t W (hs.below hb) hn hk
  have hOnly := fun (W : World) => only_ok t.size a W (by omega) (by omega)
  have hEnds : ∀ (z : Int) (W : World) (gl cl gr cr g : Nat), z = ((ns.length - 1 : Nat) : Int) → BrAt W ns (.slice ao ns.length c) gl gr → BoolsAt W g (onlyL t.size a) →
      Calls Tryd.prog 27 #[.agg #[.slice ao ns.length c, .slice (some ⟨gl, 0, none⟩) ns.length cl, .slice (some ⟨gr, 0, none⟩) ns.length cr, .string t], .int .i64 z, .slice (some ⟨g, 0, none⟩) (t.size + 1) (t.size + 1)] W fun r w' => EndsR W t (t.size + 1) (EndsAt t.data.toList (In (tOf ns (ns.length - 1))) (· = a)) r w' := by
    intro z W gl cl gr cr g hz h1 h2
    subst hz
    exact hE W ao c gl cl gr cr t g (t.size + 1) (t.size + 1) (onlyL t.size a) _ h1 h2 (by simp [onlyL]) (isSet_only t.size a (by omega)) ht
  have hwr : ∀ z : Int, z = IntKind.i64.wrap ((ns.length : Int) - 1) → z = ((ns.length - 1 : Nat) : Int) := fun z h => by rw [h, IntKind.wrap_i64]; omega
  clear hE ha hnb hk hs
  have hpl := fun (W : World) => placed_ok bol eol cl ao ns.length c t a e W
  have HT : Hid (∀ j, EndsAt t.data.toList (In (tOf ns (ns.length - 1))) (· = a) j ↔ (a ≤ j ∧ j ≤ t.size) ∧ In (tOf ns (ns.length - 1)) ((t.data.toList.drop a).take (j - a))) := fun j => by
    constructor
    · rintro ⟨i, rfl, h1, h2, h3⟩
      exact ⟨⟨h1, by simpa using h2⟩, h3⟩
    · rintro ⟨⟨h1, h2⟩, h3⟩
      exact ⟨a, rfl, h1, by simpa using h2, h3⟩
  generalize In (tOf ns (ns.length - 1)) = L at *
  go_enter Tryd.func11, Tryd.ntmps11
  go_wp2_with fail
  refine (hpl _).mono ?_
  rintro r w1 ⟨rfl, hb1⟩
  have p0 := row_below' k0 hb1
  have bl1 := below_step hb0 hb0.size hb1
  have hq : ∀ o, w1.cell? ⟨w.heap.size, o, none⟩ = #[Value.bool bol, .bool eol, .slice ao ns.length c][o]? := fun _ => cell_of_row _ _ _ _ _ _ p0
  have q0 : w1.cell? ⟨w.heap.size, 0, none⟩ = some (.bool bol) := hq 0
  have q1 : w1.cell? ⟨w.heap.size, 1, none⟩ = some (.bool eol) := hq 1
  have q2 : w1.cell? ⟨w.heap.size, 2, none⟩ = some (.slice ao ns.length c) := hq 2
  have hl1 := row_lt' p0
  clear hq hpl hb1 hb0 k0
  cases hp : placedB bol eol t.size a e cl
  · go_wp2
    go_ret
    exact ⟨false, rfl, by rw [hp]; simp, bl1⟩
  have bl1d := bl1.drew
  have hi0 : (0 : Int) ≤ (e : Int) := by omega
  have hi1 : (e : Int) < (t.size : Int) + 1 := by omega
  go_wp2
  go_region_with (first | (go_at_call 28; refine (hReady _ (by first | exact bl1d | exact below_step bl1d bl1d.size hb3)).mono ?_; rintro r w2 ⟨hb2, gl, cl2, gr, cr, rfl, hbr⟩; have bl2 := hb2.size; have y0 := (hb2.cell (p := ⟨w.heap.size, 0, none⟩) (by first | exact hl1 | exact Nat.lt_of_lt_of_le hl1 bl3)).trans (by first | exact q0 | exact z0); have y1 := (hb2.cell (p := ⟨w.heap.size, 1, none⟩) (by first | exact hl1 | exact Nat.lt_of_lt_of_le hl1 bl3)).trans (by first | exact q1 | exact z1); have y2 := (hb2.cell (p := ⟨w.heap.size, 2, none⟩) (by first | exact hl1 | exact Nat.lt_of_lt_of_le hl1 bl3)).trans (by first | exact q2 | exact z2)) | (go_at_call 29; refine (hOnly _).mono ?_; rintro r w3 ⟨rfl, hB3, hb3⟩; have bl3 := hb3.size; have z0 := (hb3.cell (p := ⟨w.heap.size, 0, none⟩) (by first | exact hl1 | exact Nat.lt_of_lt_of_le hl1 bl2)).trans (by first | exact q0 | exact y0); have z1 := (hb3.cell (p := ⟨w.heap.size, 1, none⟩) (by first | exact hl1 | exact Nat.lt_of_lt_of_le hl1 bl2)).trans (by first | exact q1 | exact y1); have z2 := (hb3.cell (p := ⟨w.heap.size, 2, none⟩) (by first | exact hl1 | exact Nat.lt_of_lt_of_le hl1 bl2)).trans (by first | exact q2 | exact y2)) | (go_at_call 27; refine (hEnds _ _ gl cl2 gr cr _ (by first | rfl | exact hwr _ rfl) (by first | exact hbr.below hb3 | exact hbr) (by first | exact hB3 | exact hB3.below hb2)).mono ?_; rintro r w4 ⟨g4, c4, S4, rfl, hB4, hl4, hs4, hb4⟩; have hcell := hB4.2 e (by omega); obtain ⟨q, hq⟩ : ∃ q, S4.getD e false = q := ⟨_, rfl⟩; rw [hq] at hcell; have Hq : Hid _ := hq; clear hq; have bel4 : Below w.heap.size w w4 := by first | exact below3 bl1d hb2 hb3 hb4 | exact below3 bl1d hb3 hb2 hb4))
  all_goals
    have hiff : q = true ↔ L ((t.data.toList.drop a).take (e - a)) := by
      rw [← Hq.out]
      exact (hs4.iff e).trans ((HT.out e).trans ⟨fun h => h.2, fun h => ⟨⟨hae, het⟩, h⟩⟩)
    go_wp2
    go_ret
    exact ⟨q, rfl, hiff.trans ⟨fun h => ⟨hp, h⟩, fun h => h.2⟩, bel4⟩
end Go.Proofs.YthgaeaihfbiolaaDoor
namespace Go.Proofs.YthgaeaihfbiolaaDoor
open Go.RowKit

theorem kidsB_stk (ns : List NodeD) (h : kidsB ns = true) : 0 < ns.length ∧ ∀ i, i < ns.length → arity (kindAt ns i) ≤ (stk ns i).length := by
  have h1 : kidsD ns 0 = some 1 := eq_of_beq h
  have key : ∀ k, k ≤ ns.length → kidsD (ns.drop k) (stk ns k).length = some 1 ∧ ∀ i, i < k → arity (kindAt ns i) ≤ (stk ns i).length := by
    intro k
    induction k with
    | zero => intro _; exact ⟨h1, fun i hi => absurd hi (Nat.not_lt_zero _)⟩
    | succ k ih =>
      intro hk
      obtain ⟨e, hs⟩ := ih (by omega)
      rw [kidsD_drop ns k (by omega) _ _ rfl] at e
      by_cases hc : (stk ns k).length < arity (kindAt ns k)
      · rw [if_pos hc] at e; cases e
      · rw [if_neg hc] at e
        refine ⟨by rw [stk_len]; exact e, fun i hi => ?_⟩
        by_cases hik : i = k
        · subst hik; omega
        · exact hs i (by omega)
  refine ⟨?_, (key ns.length (Nat.le_refl _)).2⟩
  rcases Nat.eq_zero_or_pos ns.length with h0 | h0
  · have : ns = [] := List.eq_nil_of_length_eq_zero h0
    subst this
    cases h1
  · exact h0

def spanB (G : Int) (bs : List BranchD) (t : ByteArray) (a e : Int) : Bool := specB G bs && decide (t.size ≤ 4096 ∧ 0 ≤ a ∧ a ≤ e ∧ e ≤ t.size)

set_option maxRecDepth 100000 in
set_option maxHeartbeats 1000000 in
theorem spanOK_ok {lo : Nat} (G : Int) (v : Value) (bs : List BranchD) (t : ByteArray) (a e : Int) (w : World) (hs : BranchesAt lo w v bs) (hsm : Small bs) :
    Calls Tryd.prog 10 #[.agg #[v, .int .i64 G], .string t, .int .i64 a, .int .i64 e] w fun r w' => r = .returned (.bool (spanB G bs t a e)) ∧ Below w.heap.size w w' := by
  have hs0 := hs
  obtain ⟨ao, cap, rfl, hm, hc⟩ := hs
  have hb0 : Below w.heap.size w (w.alloc (.cells #[.slice ao bs.length cap, .int .i64 G] 29)) := (Below.refl _ _).alloc (Nat.le_refl _) _
  have Hp : Hid (spanB G bs t a e = (specB G bs && decide (t.size ≤ 4096 ∧ 0 ≤ a ∧ a ≤ e ∧ e ≤ t.size))) := rfl
  have hr := specRuleOK_ok G _ bs _ (hs0.below hb0) hsm
  clear hc hs0 hsm
  generalize specB G bs = q at *
  go_enter Tryd.func10, Tryd.ntmps10
  go_wp2_with fail
  refine hr.mono ?_
  rintro r w1 ⟨rfl, hb1⟩
  have bl := below_step hb0 hb0.size hb1
  clear hr hb1 hb0
  cases q
  · go_wp2
    go_ret
    exact ⟨ret_bool (by rw [Hp.out]; rfl), bl⟩
  by_cases h1 : (t.size : Int) ≤ 4096
  · by_cases h2 : 0 ≤ a
    · by_cases h3 : a ≤ e
      · by_cases h4 : e ≤ (t.size : Int)
        · go_wp2
          go_ret
          exact ⟨ret_bool (by rw [Hp.out, Bool.true_and]; first | exact (decide_eq_true (by omega)).symm | exact (decide_eq_false (by omega)).symm | (rw [decide_eq_decide]; omega)), bl⟩
        · go_wp2
          go_ret
          exact ⟨ret_bool (by rw [Hp.out, Bool.true_and]; first | exact (decide_eq_true (by omega)).symm | exact (decide_eq_false (by omega)).symm | (rw [decide_eq_decide]; omega)), bl⟩
      · go_wp2
        go_ret
        exact ⟨ret_bool (by rw [Hp.out, Bool.true_and]; first | exact (decide_eq_true (by omega)).symm | exact (decide_eq_false (by omega)).symm | (rw [decide_eq_decide]; omega)), bl⟩
    · go_wp2
      go_ret
      exact ⟨ret_bool (by rw [Hp.out, Bool.true_and]; first | exact (decide_eq_true (by omega)).symm | exact (decide_eq_false (by omega)).symm | (rw [decide_eq_decide]; omega)), bl⟩
  · go_wp2
    go_ret
    exact ⟨ret_bool (by rw [Hp.out, Bool.true_and]; first | exact (decide_eq_true (by omega)).symm | exact (decide_eq_false (by omega)).symm | (rw [decide_eq_decide]; omega)), bl⟩

/-- Whether text[a:e) belongs to a rule in its place. -/
def SpanP (G : Int) (bs : List BranchD) (t : ByteArray) (a e : Int) (cl : Bool) : Prop := spanB G bs t a e = true ∧ ∃ k, k < bs.length ∧ BelongsP (bs.getD k .zero) t a.toNat e.toNat cl

set_option maxRecDepth 100000 in
set_option maxHeartbeats 1000000 in
theorem specSpan_ok {lo : Nat} (G : Int) (v : Value) (bs : List BranchD) (t : ByteArray) (a e : Int) (cl : Bool) (w : World) (hs : BranchesAt lo w v bs) (hsm : Small bs) :
    Calls Tryd.prog 5 #[.agg #[v, .int .i64 G], .string t, .int .i64 a, .int .i64 e, .bool cl] w fun r w' => SpanR w (SpanP G bs t a e cl) r w' := by
  have hs0 := hs
  obtain ⟨ao, cap, rfl, hm, hc⟩ := hs
  have hb0 : Below w.heap.size w (w.alloc (.cells #[.slice ao bs.length cap, .int .i64 G] 29)) := (Below.refl _ _).alloc (Nat.le_refl _) _
  have k0 : (w.alloc (.cells #[.slice ao bs.length cap, .int .i64 G] 29)).heap[w.heap.size]? = some (.cells #[.slice ao bs.length cap, .int .i64 G] 29 (0, 0)) := heap_alloc_new _ _
  have hr := spanOK_ok G _ bs t a e _ (hs0.below hb0) hsm
  clear hs0
  go_enter Tryd.func5, Tryd.ntmps5
  go_wp2_with fail
  refine hr.mono ?_
  rintro r w1 ⟨rfl, hb1⟩
  have bl := below_step hb0 hb0.size hb1
  have p0 := row_below' k0 hb1
  have q0 : w1.cell? ⟨w.heap.size, 0, none⟩ = some (.slice ao bs.length cap) := (cell_of_row _ _ _ _ _ _ p0 : w1.cell? ⟨w.heap.size, 0, none⟩ = _)
  clear hr hb1 hb0 k0
  cases hq : spanB G bs t a e
  · go_wp2
    go_ret
    refine ⟨false, rfl, ⟨fun h => (Bool.false_ne_true h).elim, fun h => ?_⟩, bl⟩
    have := h.1
    rw [hq] at this
    exact this
  have hq0 := hq
  unfold spanB specB at hq0
  simp only [Bool.and_eq_true, decide_eq_true_eq] at hq0
  obtain ⟨⟨⟨⟨⟨⟨⟨hb1, -⟩, -⟩, hall⟩, -⟩, -⟩, -⟩, ht, ha0, hae, het⟩ := hq0
  obtain ⟨a', rfl⟩ : ∃ a' : Nat, a = a' := ⟨a.toNat, by omega⟩
  obtain ⟨e', rfl⟩ : ∃ e' : Nat, e = e' := ⟨e.toNat, by omega⟩
  have hbel := fun (k : Nat) (hk : k < bs.length) (W : World) (ao : Option Addr) (c : Nat) (h : NodesAt lo W (.slice ao (bs.getD k .zero).nodes.length c) (bs.getD k .zero).nodes) => by
    have hmem : bs.getD k .zero ∈ bs := by rw [List.getD_eq_getElem?_getD, List.getElem?_eq_getElem hk]; exact List.getElem_mem _
    have hkb := List.all_eq_true.1 hall _ hmem
    simp only [Bool.and_eq_true] at hkb
    have hst := kidsB_stk _ hkb.1
    exact belongs_ok (bs.getD k .zero) ao c t a' e' cl W h (hsm.2 k hk).1 hkb.1 hkb.2 hst.2 hst.1 (by omega) (by omega) ht
  have Hq : Hid _ := hq
  have hlen := hsm.1
  clear hall hsm hq
  go_wp2
  go_loopw [22] (fun i wr => ∃ k : Nat, k ≤ bs.length ∧ i = .int .i64 k ∧ Below w.heap.size w wr ∧ Hid (∀ j, j < k → ¬BelongsP (bs.getD j .zero) t a' e' cl))
    (fun i _ => bs.length - (intOf i).toNat)
  case atStart => exact ⟨0, Nat.zero_le _, rfl, bl, fun j hj => absurd hj (Nat.not_lt_zero _)⟩
  case round =>
    obtain ⟨k, hk, rfl, hb, HN⟩ := hrel
    by_cases hlt : k < bs.length
    · obtain ⟨b, o, nv, bd, rfl, Hn, hbl, c0, c1, c2, hnv⟩ := hc.elem hb hlt
      have hbk := hbel k hlt
      rw [Hn.out] at hbk
      obtain ⟨nao, ncap, rfl, hnm, hnc⟩ := hnv
      have hnv : NodesAt lo wr (.slice nao bd.nodes.length ncap) bd.nodes := ⟨nao, ncap, rfl, hnm, hnc⟩
      have hba : Below w.heap.size w (wr.alloc (.cells #[.bool bd.bol, .bool bd.eol, .slice nao bd.nodes.length ncap] 37)) := hb.alloc hb.size _
      have hcall := hbk _ nao ncap (hnv.below (w' := wr.alloc (.cells #[.bool bd.bol, .bool bd.eol, .slice nao bd.nodes.length ncap] 37)) ((Below.refl _ _).alloc (Nat.le_refl _) _))
      clear hbk hbel hnc hc hnv
      have HB : Hid (BelongsP (bs.getD k .zero) t a' e' cl = BelongsP bd t a' e' cl) := by show _ = _; rw [Hn.out]
      go_wp2_with fail
      refine hcall.mono ?_
      rintro r w2 ⟨q, rfl, hiff, hb2⟩
      have bl2 := below_step hba hba.size hb2
      cases q
      · go_wp2
        go_roundw
        case rel => exact ⟨k + 1, by omega, by go_num, bl2, fun j hj => by
          by_cases ej : j = k
          · subst ej; rw [HB.out, ← hiff]; simp
          · exact HN.out j (by omega)⟩
        case measure => simp [intOf]; omega
      · go_wp2
        go_ret
        exact ⟨true, rfl, ⟨fun _ => ⟨Hq.out, k, hlt, by rw [show (a' : Int).toNat = a' by omega, show (e' : Int).toNat = e' by omega, HB.out]; first | exact hiff.1 rfl | exact hiff.1 trivial⟩, fun _ => rfl⟩, bl2⟩
    · go_wp2
      go_ret
      refine ⟨false, rfl, ⟨fun h => (Bool.false_ne_true h).elim, ?_⟩, hb⟩
      rintro ⟨-, j, hj, h⟩
      rw [show (a' : Int).toNat = a' by omega, show (e' : Int).toNat = e' by omega] at h
      exact absurd h (HN.out j (by omega))
end Go.Proofs.YthgaeaihfbiolaaDoor
