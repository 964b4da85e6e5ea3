import Derived.Test.YtgbdlgogccgciaaMiPMiQ
import Derived.Test.YtgbdlgogccgciaaRfNRfO
import Derived.Test.YtgbdlgogccgciaaLst
import Derived.Deep.WholeRow
namespace Go.Proofs.Ytgbdlgogccgciaa
open Go.RowKit
attribute [local go_sem] Oper.semAt_some

/- arrowsInto. -/
theorem Try.zeroMarks (w : World) : (zeroValue 73).run Try.prog w = .ok (.agg (blRow 256 fun _ => false)) w := by
  simp [zeroValue, typeInfo]
  kernel_rfl
theorem Try.infoArrows : (Try.prog.info? 63).map (fun i => (i.zero, i.size, i.bytes)) = some (some (.slice none 0 0), 1, 24) := by kernel_rfl
/-- All blocks but rows of arrows lie as they lay. -/
def KpA (W W' : World) : Prop := ∀ (b : Nat) (o : Obj), W.heap[b]? = some o → (∀ cs, o ≠ .cells cs 65 (0, 0)) → (∀ cs, o ≠ .cells cs 63 (0, 0)) → W'.heap[b]? = some o
theorem KpA.refl (W : World) : KpA W W := fun _ _ h _ _ => h
theorem KpA.trans {A B C : World} (h : KpA A B) (k : KpA B C) : KpA A C := fun b o hb h1 h2 => k b o (h b o hb h1 h2) h1 h2
theorem ArS.kept {B gI n : Nat} {W W' : World} {v : Nat → Value} {A : Nat → List (Nat × Nat)} (S : ArS B W gI n v A) {i : Nat} (hi : i < n) (hg : W.grownBy W' (v i).ownBlock) (u : Value) : KpA W (W'.setCell ⟨gI, i, none⟩ u) := fun b o hb h1 h2 => by
  have hlt := (Array.getElem?_eq_some_iff.1 hb).1
  have hb1 : W'.heap[b]? = some o := (hg.block b hlt (fun e => by
    obtain ⟨_, cur, hc⟩ := own_blockT (S.rows i hi) e.symm
    rw [hc] at hb
    exact h1 cur (Option.some.inj hb).symm)).trans hb
  refine (heap_setCell_other _ _ _ _ (fun e => ?_)).trans hb1
  have e2 : b = gI := e
  obtain ⟨_, cur, hc⟩ := own_blockT S.out (k := gI) rfl
  rw [e2, hc] at hb
  exact h2 cur (Option.some.inj hb).symm
theorem ArS.lower {B gI n : Nat} {w W W' : World} {v : Nat → Value} {A : Nat → List (Nat × Nat)} (S : ArS B W gI n v A) (hB : B ≤ W.heap.size) {i : Nat} (hi : i < n) (hg : W.grownBy W' (v i).ownBlock) (u : Value) (h : Below B w W) : Below B w (W'.setCell ⟨gI, i, none⟩ u) :=
  (h.grown hg hB (fun _ hb => (own_blockT (S.rows i hi) hb).1)).setCell (p := ⟨gI, i, none⟩) (own_blockT S.out (k := gI) rfl).1 u
theorem own_formT {W : World} {B sz n : Nat} {e : TypeId} {v : Value} {xs : List Value} (h : W.ownsRow B e sz v n xs) : ∃ p : Option Addr × Nat, v = .slice p.1 n p.2 := by
  rcases h.2 with ⟨rfl, h0⟩ | ⟨g, cap, _, rfl, _⟩
  · exact ⟨(none, 0), by rw [h0]⟩
  · exact ⟨(some ⟨g, 0, none⟩, cap), rfl⟩
theorem ArS.cells {B gI n : Nat} {W W' : World} {v : Nat → Value} {A : Nat → List (Nat × Nat)} (S : ArS B W gI n v A) (h : ∀ (b : Nat) (cs : Array Value) (t : TypeId), W.heap[b]? = some (.cells cs t (0, 0)) → W'.heap[b]? = some (.cells cs t (0, 0))) : ArS B W' gI n v A :=
  ⟨own_keepM S.out fun b cs hb => h b cs _ hb, fun s hs => own_keepM (S.rows s hs) fun b cs hb => h b cs _ hb, S.apart⟩
theorem ArS.start {B gI n : Nat} {W : World} (h : W.ownsRow B 63 1 (.slice (some ⟨gI, 0, none⟩) n n) n (rowV (fun _ => .slice none 0 0) n)) : ArS B W gI n (fun _ => .slice none 0 0) (fun _ => []) :=
  ⟨h, fun _ _ => ⟨rfl, .inl ⟨rfl, rfl⟩⟩, fun _ _ _ _ _ b hb => by simp [Value.ownBlock] at hb⟩
theorem made_nils (n : Nat) : (madeCells (Value.slice none 0 0).cells (n * 1)).toList = rowV (fun _ => .slice none 0 0) n := by
  apply List.ext_getElem?
  intro i
  by_cases h : i < n
  · rw [rowV_get _ h]; simp [madeCells, Value.cells, Nat.mod_one, h]
  · rw [List.getElem?_eq_none (by simp [madeCells]; omega), List.getElem?_eq_none (by simp [rowV]; omega)]
/-- What arrowsInto answers. -/
def ArR (w : World) (d : DfaD) (e : Ending) (w' : World) : Prop := ∃ (gI : Nat) (v : Nat → Value) (A : Nat → List (Nat × Nat)), e = .returned (.slice (some ⟨gI, 0, none⟩) d.tag.length d.tag.length) ∧ ArS w.heap.size w' gI d.tag.length v A ∧ ArI d A d.tag.length 0 ∧ Below w.heap.size w w'

set_option maxRecDepth 100000 in
set_option maxHeartbeats 4000000 in
theorem arrows_ok (cv nv tv ev : Value) (d : DfaD) (w : World) (hs : DfaAt 0 w cv nv tv ev d) (hf : DfaFine d) :
    Calls Try.prog 33 #[.agg #[cv, .int .i64 d.width, nv, tv, ev]] w (ArR w d) := by
  have hzm := Try.zeroMarks
  obtain ⟨iA, hjA, hyA0, hyA1, hyA2⟩ := info_parts Try.infoArrows
  obtain ⟨⟨ca, cc, rfl, cm, cx⟩, ⟨na, nc, rfl, nm, nx⟩, ⟨ta, tc, rfl, tm, tx⟩, ⟨ea, ec, rfl, em, ex⟩⟩ := hs
  have hn1 := hf.n1
  have hn2 := hf.n2
  obtain ⟨cb, co, rfl, _, cl, cq⟩ := cx (by have := hf.cl; omega)
  obtain ⟨nb, no, rfl, _, nl, nq⟩ := nx (by have := hf.wd; have := hf.nidx (s := 0) (c := 0) (by omega) (by omega); omega)
  obtain ⟨WD, hWD⟩ : ∃ WD, w.alloc (.cells #[.slice (some ⟨cb, co, none⟩) d.classes.length cc, .int .i64 d.width, .slice (some ⟨nb, no, none⟩) d.next.length nc, .slice ta d.tag.length tc, .slice ea d.fin.length ec] 26) = WD := ⟨_, rfl⟩
  have hWs : WD.heap.size = w.heap.size + 1 := by rw [← hWD]; simp
  have xD : WD.heap[w.heap.size]? = some (.cells #[.slice (some ⟨cb, co, none⟩) d.classes.length cc, .int .i64 d.width, .slice (some ⟨nb, no, none⟩) d.next.length nc, .slice ta d.tag.length tc, .slice ea d.fin.length ec] 26 (0, 0)) := by rw [← hWD]; exact heap_alloc_new _ _
  have bD : Below w.heap.size w WD := by rw [← hWD]; exact (Below.refl _ _).alloc (Nat.le_refl _) _
  have hsto : (storeCells ⟨w.heap.size + 1, 0, none⟩ (blRow 256 fun _ => false).toList).run Try.prog (WD.alloc (.cells (blRow 256 fun _ => false) 73)) = .ok () (WD.alloc (.cells (blRow 256 fun _ => false) 73)) := by
    have := run_storeCells_new (P := Try.prog) WD 73 (blRow 256 fun _ => false) (blRow 256 fun _ => false) (by kernel_rfl) rfl (by kernel_rfl)
    rw [hWs] at this
    simpa using this
  refine (callsIn_wide (n := 5)).1 ?_
  refine callsIn_of_wp_marks Try.func33 rfl trivial ?_ rfl
  simp only [Try.ntmps33, List.size_toArray, List.length_cons, List.length_nil, Nat.reduceAdd, Nat.reduceSub, Array.replicate_succ, Array.replicate_zero, List.push_toArray, List.append_toArray, List.nil_append, List.cons_append]
  gi_wp2
  rename_i K hK
  have bM : Below WD.heap.size WD (WD.alloc (.cells (blRow 256 fun _ => false) 73)) := (Below.refl _ _).alloc (Nat.le_refl _) _
  have hsz : (WD.alloc (.cells (blRow 256 fun _ => false) 73)).heap.size = w.heap.size + 2 := by simp; omega
  have xM : (WD.alloc (.cells (blRow 256 fun _ => false) 73)).heap[w.heap.size + 1]? = some (.cells (blRow 256 (useF d 0)) 73 (0, 0)) := by rw [← hWs]; exact heap_alloc_new _ _
  refine wpIn_seqN (encs := byteN) (N := 256) (gf := 30)
    (I := fun k W => W.heap[w.heap.size]? = some (.cells #[.slice (some ⟨cb, co, none⟩) d.classes.length cc, .int .i64 d.width, .slice (some ⟨nb, no, none⟩) d.next.length nc, .slice ta d.tag.length tc, .slice ea d.fin.length ec] 26 (0, 0)) ∧ W.heap[w.heap.size + 1]? = some (.cells (blRow 256 (useF d k)) 73 (0, 0)) ∧ Below w.heap.size w W)
    (a₁ := fun k => { tmps := #[.agg #[.slice (some ⟨cb, co, none⟩) d.classes.length cc, .int .i64 d.width, .slice (some ⟨nb, no, none⟩) d.next.length nc, .slice ta d.tag.length tc, .slice ea d.fin.length ec], .pointer (some ⟨w.heap.size, 0, none⟩), .slice none 0 0, .pointer (some ⟨w.heap.size + 1, 0, none⟩), .int .i64 (k : Int), undef, undef, undef, undef, .agg (blRow 256 fun _ => false), .int .i64 (k : Int), undef, undef, undef, undef, undef, undef, undef, undef, undef, undef, undef, undef, undef, undef, undef, undef, undef, undef, undef, undef, undef, undef, undef, undef, undef, undef, undef, undef, undef, undef, undef, undef, undef, undef, undef, undef, undef, undef, undef, undef, undef, undef, undef, undef, undef, undef, undef, undef, undef], defers := [] })
    ?h1 ?hg ?eg ?hseq ?hps ?hI ?h0 ?assign ?body ?done
  case h1 => omega
  case hg => rfl
  case eg => exact enters_of Try.func30 (by kernel_rfl) rfl
  case hseq => exact allBytes_seq 4 (by omega)
  case hps => exact fun _ => rfl
  case hI => exact OwnFrom.and (Own.from (heapRow_own _ _ _) _) (OwnFrom.and (Own.from (heapRow_own _ (fun k => blRow 256 (useF d k)) _) _) (ownFrom_below (Nat.le_refl _) (by omega)))
  case h0 => exact ⟨row_below xD bM, xM, bD.trans (bM.mono bD.size)⟩
  case assign =>
    intro l k W K hK
    unfold byteN
    gi_wp2
    exact hK
  case body =>
    rintro l k W hl ⟨h1, h2, h3⟩ hk
    obtain ⟨q0, q1, q2, q3, q4⟩ := row_five h1
    have hcc := hf.clc hk
    have hcw := hcc.2
    have c1 : W.cell? ⟨cb, co + k, none⟩ = some (.int .i64 (clN d k : Int)) := by rw [h3.cell (p := ⟨cb, co + k, none⟩) cl, cq k (by have := hf.cl; omega), hcc.1]
    have c2 : W.cell? ⟨w.heap.size + 1, clN d k, none⟩ = some (.bool (useF d k (clN d k))) := by rw [cell_of_row _ _ _ _ _ _ h2, blRow_get _ _ (by have := hf.wd; omega)]
    have f2 := frozen_of_row _ _ (clN d k) _ _ h2
    have hs2 := heap_setCell_same W (w.heap.size + 1) (clN d k) _ _ (.bool true) h2
    rw [blRow_set, useF_succ] at hs2
    have HN : Hid _ := hs2
    have H1 : Hid _ := h1
    have hi1 : (k : Int) < (d.classes.length : Int) := by have := hf.cl; omega
    have hi2 : ((clN d k : Nat) : Int) < 256 := by have := hf.wd; omega
    clear hs2 h1 h2 hcc hzm hsto cq nq hK
    generalize hcN : clN d k = c at *
    gi_wp2
    refine ⟨(KeepsOthers.setCell _ _ _).from _, (heap_setCell_other _ _ _ _ (by simp)).trans H1.out, HN.out, h3.setCell (p := ⟨w.heap.size + 1, c, none⟩) (by simp) _⟩
  case done =>
    rintro D W hDe ⟨h1, h2, h3⟩ hD
    have hDw : w.heap.size ≤ D := by omega
    clear hDe
    refine hK _ _ (wpIn_wide.2 ?_)
    dsimp only
    have hsW := h3.size
    obtain ⟨q0, q1, q2, q3, q4⟩ := row_five h1
    have HF : Hid (DfaFine d) := hf
    have H1 : Hid _ := h1
    have H2 : Hid _ := h2
    have H3 : Hid _ := h3
    have HD : Hid _ := hD
    clear h1 h2 h3 hD hf hzm hsto hK xD bD bM xM hWD hWs hsz WD
    go_wp2_with (refine wpList_make_full _ rfl _ _ 56 rfl w.heap.size 63 iA _ 1 Try.underlying56 hjA hyA0 hyA1 _ _ _ _ d.tag.length rfl rfl rfl rfl (by rw [hyA2]; omega) (by unfold maxLen; omega) hsW ?_; intro w1 hown1 hgrow1; have hb1 : Below W.heap.size W w1 := (Below.refl _ _).grown hgrow1 (Nat.le_refl _) (by intro k h; cases h); obtain ⟨r0, r1, r2, r3, r4⟩ := row_five (row_below H1.out hb1))
    rw [made_nils] at hown1
    have HS1 : Hid _ := ArS.start hown1
    have B1 := row_below H1.out hb1
    have B2 := row_below H2.out hb1
    have BD : w1.heap[D]? = some (.deferred (some [])) := (hb1.block D (Array.getElem?_eq_some_iff.1 HD.out).1).trans HD.out
    have HB1 : Hid (Below w.heap.size w w1) := H3.out.trans (hb1.mono hsW)
    have hsz1 := HB1.out.size
    have HQ : Hid (∀ W', KpA w1 W' → W'.heap[w.heap.size]? = some (.cells #[.slice (some ⟨cb, co, none⟩) d.classes.length cc, .int .i64 d.width, .slice (some ⟨nb, no, none⟩) d.next.length nc, .slice ta d.tag.length tc, .slice ea d.fin.length ec] 26 (0, 0)) ∧ W'.heap[w.heap.size + 1]? = some (.cells (blRow 256 (useF d 256)) 73 (0, 0)) ∧ W'.heap[D]? = some (.deferred (some []))) := fun W' k =>
      ⟨k _ _ B1 (fun cs e => absurd (cells_typeM (congrArg some e)) (by decide)) (fun cs e => absurd (cells_typeM (congrArg some e)) (by decide)), k _ _ B2 (fun cs e => absurd (cells_typeM (congrArg some e)) (by decide)) (fun cs e => absurd (cells_typeM (congrArg some e)) (by decide)), k _ _ BD (fun cs e => by cases e) (fun cs e => by cases e)⟩
    have Hnq : Hid (∀ i : Nat, i < d.next.length → w.cell? ⟨nb, no + i, none⟩ = some (.int .i64 (d.next.getD i 0))) := nq
    clear hown1 hgrow1 B1 B2 BD H1 H2 HD q0 q1 q2 q3 q4 r0 r1 r2 r3 r4 hb1 nq cq
    go_loopw [24] (fun i wr => ∃ (k : Nat) (v : Nat → Value) (A : Nat → List (Nat × Nat)), k ≤ d.tag.length ∧ i = .int .i64 k ∧ Hid (ArS w.heap.size wr W.heap.size d.tag.length v A) ∧ Hid (ArI d A k 0) ∧ Hid (KpA w1 wr) ∧ Hid (Below w.heap.size w wr))
      (fun i _ => d.tag.length - (intOf i).toNat)
    case atStart => exact ⟨0, _, _, Nat.zero_le _, rfl, HS1.out, ArI.start d, KpA.refl _, HB1.out⟩
    case round =>
      clear HS1
      obtain ⟨k, v, A, hk, rfl, HS, HI, HK, HB⟩ := hrel
      by_cases hk2 : k < d.tag.length
      · obtain ⟨q0, q1, q2, q3, q4⟩ := row_five (HQ.out wr HK.out).1
        have hi1 : (k : Int) < (d.tag.length : Int) := by omega
        go_wp2
        clear q0 q1 q2 q3 q4
        go_loopw [29] (fun i wr => ∃ (c : Nat) (v : Nat → Value) (A : Nat → List (Nat × Nat)), c ≤ wdN d ∧ i = .int .i64 c ∧ Hid (ArS w.heap.size wr W.heap.size d.tag.length v A) ∧ Hid (ArI d A k c) ∧ Hid (KpA w1 wr) ∧ Hid (Below w.heap.size w wr))
          (fun i _ => wdN d - (intOf i).toNat)
        case atStart => exact ⟨0, v, A, Nat.zero_le _, rfl, HS, HI, HK, HB⟩
        case round =>
          clear HS HI HK HB
          obtain ⟨c, v, A, hc, rfl, HS, HI, HK, HB⟩ := hrel
          have hwd := HF.out.wd
          have hw2 := hwd.2.2
          by_cases hc2 : c < wdN d
          · obtain ⟨hX1, hX2, hX3⟩ := HQ.out wr HK.out
            obtain ⟨q0, q1, q2, q3, q4⟩ := row_five hX1
            have u1 : wr.cell? ⟨w.heap.size + 1, c, none⟩ = some (.bool (useF d 256 c)) := by rw [cell_of_row _ _ _ _ _ _ hX2, blRow_get _ _ (by omega)]
            have hi2 : (c : Int) < d.width := by rw [hwd.1]; omega
            have hi3 : (c : Int) < 256 := by omega
            clear hX1 hX2 hX3
            by_cases hu : useF d 256 c = true
            · have hcu := (useF_all HF.out hc2).1 hu
              have hnx := HF.out.nx hk2 hc2
              have htn := hnx.2
              have hidx := HF.out.nidx hk2 hc2
              have hmul : k * wdN d ≤ 4000 * 256 := Nat.mul_le_mul (by omega) hw2
              have c2 := (HB.out.cell (p := ⟨nb, no + (k * wdN d + c), none⟩) nl).trans (Hnq.out _ hidx)
              rw [hnx.1] at c2
              have hjn : ((k : Int) * d.width + (c : Int)) = ((k * wdN d + c : Nat) : Int) := by rw [hwd.1]; simp
              have hj0 : (0 : Int) ≤ (k : Int) * d.width := by rw [hwd.1]; exact Int.mul_nonneg (by omega) (by omega)
              have hj1 : (k : Int) * d.width ≤ 1024000 := by
                rw [hwd.1]
                have : ((k * wdN d : Nat) : Int) ≤ ((4000 * 256 : Nat) : Int) := by exact_mod_cast hmul
                simpa using this
              have hj2 : (k : Int) * d.width + (c : Int) < (d.next.length : Int) := by rw [hjn]; exact_mod_cast hidx
              have htn2 : ((k : Int) * d.width + (c : Int)).toNat = k * wdN d + c := by rw [hjn]; exact Int.toNat_natCast _
              rw [← htn2] at c2
              have hx0 : 0 ≤ (k : Int) * d.width + (c : Int) := by omega
              have hx1 : (k : Int) * d.width + (c : Int) ≤ 2000000 := by omega
              have hA1 := HI.out.len (nxN d k c)
              have HA : Hid _ := HI.out.add hcu rfl
              generalize nxN d k c = t at *
              obtain ⟨⟨pa, pc⟩, hv⟩ := own_formT (HS.out.rows t htn)
              have o1 := HS.out.out.cellAt t (by omega)
              rw [rowV_get v htn, hv] at o1
              have hsr := HB.out.size
              have Hv : Hid _ := hv
              have hi4 : (t : Int) < (d.tag.length : Int) := by omega
              have hA2 : (A t).length ≤ 2000000 := by omega
              clear htn2 hjn hidx hmul hnx hv hwd hA1
              obtain ⟨P, hP⟩ : ∃ P, (k : Int) * d.width = P := ⟨_, rfl⟩
              rw [hP] at hj0 hj1 hj2 c2 hx0 hx1
              have HX : Hid (∀ g cap W', W'.ownsRow w.heap.size 65 2 (.slice (some ⟨g, 0, none⟩) ((A t).length + 1) cap) ((A t).length + 1) (pairL (A t ++ [(k, c)])) → wr.grownBy W' (v t).ownBlock → ((v t).ownBlock = some g ∨ wr.heap.size ≤ g) →
                  W'.cell? ⟨W.heap.size, t, none⟩ = some (.slice pa (A t).length pc) ∧ W'.frozen? ⟨W.heap.size, t, none⟩ = false ∧ Hid (ArS w.heap.size (W'.setCell ⟨W.heap.size, t, none⟩ (.slice (some ⟨g, 0, none⟩) ((A t).length + 1) cap)) W.heap.size d.tag.length (upd v t (.slice (some ⟨g, 0, none⟩) ((A t).length + 1) cap)) (fun j => if j = t then A t ++ [(k, c)] else A j) ∧ KpA w1 (W'.setCell ⟨W.heap.size, t, none⟩ (.slice (some ⟨g, 0, none⟩) ((A t).length + 1) cap)) ∧ Below w.heap.size w (W'.setCell ⟨W.heap.size, t, none⟩ (.slice (some ⟨g, 0, none⟩) ((A t).length + 1) cap)))) := fun g cap W' ho hg hat => by
                obtain ⟨a1, a2, a3⟩ := HS.out.app htn ho hg hat
                rw [Hv.out] at a1
                exact ⟨a1, a2, a3, HK.out.trans (HS.out.kept htn hg _), HS.out.lower hsr htn hg _ HB.out⟩
              generalize hAl : (A t).length = m at *
              go_wp2_with (at_builtin; refine wpList_ar HS.out _ rfl rfl (.tmp 50) (.tmp 54) rfl t htn m hAl (by exact Hv.out.symm) k c rfl hA2 hsr ?_; intro g' cap' w5 ho5 hg5 hat5; obtain ⟨b1, b2, HY⟩ := HX.out g' cap' w5 ho5 hg5 hat5; clear ho5 hg5 hat5)
              go_roundw
              case rel => exact ⟨c + 1, _, _, by omega, by go_num, HY.out.1, HA.out, HY.out.2.1, HY.out.2.2⟩
              case measure => simp [intOf]; omega
            · have hcu : c ∉ usedF d (wdN d) := fun h => hu ((useF_all HF.out hc2).2 h)
              have hub : useF d 256 c = false := by simpa using hu
              rw [hub] at u1
              have HA : Hid _ := HI.out.skip hcu
              clear hwd hu
              go_wp2
              go_roundw
              case rel => exact ⟨c + 1, v, A, by omega, by go_num, HS, HA, HK, HB⟩
              case measure => simp [intOf]; omega
          · have hcc : c = wdN d := by omega
            have hi2 : ¬(c : Int) < d.width := by rw [hwd.1]; omega
            have HA : Hid (ArI d A (k + 1) 0) := by
              have := HI.out
              rw [hcc] at this
              exact this.row HF.out
            clear hwd hcc
            go_wp2
            go_roundw
            case rel => exact ⟨k + 1, v, A, by omega, by go_num, HS, HA, HK, HB⟩
            case measure => simp [intOf]; omega
      · have hkk : k = d.tag.length := by omega
        have hi2 : ¬(k : Int) < (d.tag.length : Int) := by omega
        have hX3 := (HQ.out wr HK.out).2.2
        have HA : Hid (ArI d A d.tag.length 0) := by rw [← hkk]; exact HI.out
        clear hkk
        go_wp2
        have hcell : ∀ (b : Nat) (cs : Array Value) (t : TypeId), wr.heap[b]? = some (.cells cs t (0, 0)) → (wr.putObj D (.deferred none)).heap[b]? = some (.cells cs t (0, 0)) := fun b cs t hb => (World.putObj_heap_other (fun e : b = D => by rw [e, hX3] at hb; cases hb)).trans hb
        refine ⟨by simp, .inl ⟨_, _, rfl, run_takeDeferred hX3, ?_⟩⟩
        exact ⟨.slice (some ⟨W.heap.size, 0, none⟩) d.tag.length d.tag.length, by simp [results, Try.results33, go_sem], W.heap.size, v, A, rfl, HS.out.cells hcell, HA.out, HB.out.grown (grownBy_putObj' _ D _) HB.out.size (fun q e => by cases e; exact hDw)⟩
end Go.Proofs.Ytgbdlgogccgciaa
