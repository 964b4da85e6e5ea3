import Derived.Test.YtgbdlgogccgciaaMiJMiO
import Derived.Laws.Tables
namespace Go.Proofs.Ytgbdlgogccgciaa
open Go.RowKit
attribute [local go_sem ↓] Go.wp_at_zero Go.wp_at_succ

theorem own_fullS {w : World} {base : Nat} {e : TypeId} {g n sz : Nat} {xs : List Value} (h : w.ownsRow base e sz (.slice (some ⟨g, 0, none⟩) n n) n xs) : w.heap[g]? = some (.cells xs.toArray e (0, 0)) := by
  rcases h.2 with ⟨h, _⟩ | ⟨g', cap, cr, h, _, hrow, _, _, hsz, htk⟩
  · cases h
  · cases h
    rw [hrow]
    congr 2
    apply Array.ext'
    rw [List.take_of_length_le (by simp [hsz])] at htk
    rw [htk]
theorem Try.buildTr (a b : Int) (w : World) : (Instr.build 68 #[(1, .int .u64 a), (2, .int .u64 b)]).run Try.prog w = .ok (.agg #[.int .u64 0, .int .u64 a, .int .u64 b, .int .u64 0, .int .u64 0]) w := run_build w 68 _ _ (by kernel_rfl)
attribute [local go_sem] Try.buildTr
/-- A state's trait by its answers. -/
def ansT (d : DfaD) (s : Nat) : Tr := (0, (d.tag.getD s 0 + 1).toNat, (d.fin.getD s 0 + 1).toNat, 0, 0)
def stP (n k : Nat) : List Nat := (List.range n).map fun j => if j < k then j else 0
theorem stP_len (n k : Nat) : (stP n k).length = n := by simp [stP]
theorem stP_zero (n : Nat) : stP n 0 = List.replicate n 0 := by
  apply List.ext_getElem?
  intro i
  by_cases h : i < n
  · simp [stP, h]
  · simp [stP, h]
theorem stP_end (n : Nat) : stP n n = List.range n := by
  apply List.ext_getElem?
  intro i
  by_cases h : i < n
  · simp [stP, h]
  · simp [stP, h]
theorem stP_set {n k : Nat} (hk : k < n) : (stP n k).set k k = stP n (k + 1) := by
  apply List.ext_getElem?
  intro i
  rw [List.getElem?_set]
  by_cases h : i < n
  · by_cases e : k = i
    · subst e; simp [stP, h]
    · rw [if_neg e]
      simp only [stP, List.getElem?_map, List.getElem?_range h, Option.map_some]
      congr 1
      by_cases h2 : i < k
      · rw [if_pos h2, if_pos (by omega)]
      · rw [if_neg h2, if_neg (by omega)]
  · by_cases e : k = i
    · omega
    · rw [if_neg e]; simp [stP, h]
def trP (d : DfaD) (k : Nat) : Nat → Tr := fun s => if s < k then ansT d s else kz
theorem trP_set (d : DfaD) (k : Nat) : updT (trP d k) k (ansT d k) = trP d (k + 1) := by
  funext j
  unfold updT trP
  by_cases e : j = k
  · subst e; rw [if_pos rfl, if_pos (by omega)]
  · rw [if_neg e]
    by_cases h : j < k
    · rw [if_pos h, if_pos (by omega)]
    · rw [if_neg h, if_neg (by omega)]

theorem ints_nat (l : List Nat) : (intsN l).map intV = natL l := by simp [intsN, natL, intV]
theorem owns_nat {B g n c : Nat} {W : World} {l : List Nat} (h : W.ownsRow B 3 1 (.slice (some ⟨g, 0, none⟩) n c) n (natL l)) (hl : l.length = n) : Owns B W (.slice (some ⟨g, 0, none⟩) n c) (intsN l) := by
  unfold Owns
  rw [ints_nat, intsN_len, hl]
  exact h
def v3 (gO gW gS n : Nat) : Nat → Value := fun i => if i = 0 then .slice (some ⟨gO, 0, none⟩) n n else if i = 1 then .slice (some ⟨gW, 0, none⟩) 1 1 else .slice (some ⟨gS, 0, none⟩) n n
def l3 (n : Nat) : Nat → List Int := fun i => if i = 0 then intsN (List.replicate n 0) else if i = 1 then intsN [0] else intsN (List.range n)
theorem PtS.start {gt : Nat} {w5 : World} {gO gS n : Nat} (hO : w5.ownsRow (gt + 1) 3 1 (.slice (some ⟨gO, 0, none⟩) n n) n (natL (List.replicate n 0))) (hS : w5.ownsRow (gt + 1) 3 1 (.slice (some ⟨gS, 0, none⟩) n n) n (natL (List.range n))) (hne : gO ≠ gS) (hs : gt + 1 ≤ w5.heap.size) :
    PtS gt (((w5.alloc (.cells #[.slice (some ⟨gS, 0, none⟩) n n] 22)).alloc (.cells #[.int .i64 0] 3)).alloc (.cells #[.slice (some ⟨gO, 0, none⟩) n n, .slice (some ⟨w5.heap.size, 0, none⟩) 1 1, .slice (some ⟨w5.heap.size + 1, 0, none⟩) 1 1] 62)) (w5.heap.size + 1 + 1) (.slice (some ⟨w5.heap.size, 0, none⟩) 1 1) 1 (fun _ => 2) (v3 gO (w5.heap.size + 1) gS n) (l3 n) 3 (List.replicate n 0) [0] (fun _ => List.range n) := by
  have hb1 : Below w5.heap.size w5 (w5.alloc (.cells #[.slice (some ⟨gS, 0, none⟩) n n] 22)) := (Below.refl _ _).alloc (Nat.le_refl _) _
  have e1 : (w5.alloc (.cells #[.slice (some ⟨gS, 0, none⟩) n n] 22)).heap.size = w5.heap.size + 1 := by simp
  have n1 := heap_alloc_new w5 (.cells #[.slice (some ⟨gS, 0, none⟩) n n] 22)
  generalize w5.alloc (.cells #[.slice (some ⟨gS, 0, none⟩) n n] 22) = A1 at *
  have hb2 : Below A1.heap.size A1 (A1.alloc (.cells #[.int .i64 0] 3)) := (Below.refl _ _).alloc (Nat.le_refl _) _
  have e2 : (A1.alloc (.cells #[.int .i64 0] 3)).heap.size = w5.heap.size + 1 + 1 := by simp [e1]
  have n2 := heap_alloc_new A1 (.cells #[.int .i64 0] 3)
  rw [e1] at n2
  generalize A1.alloc (.cells #[.int .i64 0] 3) = A2 at *
  have hb3 : Below A2.heap.size A2 (A2.alloc (.cells #[.slice (some ⟨gO, 0, none⟩) n n, .slice (some ⟨w5.heap.size, 0, none⟩) 1 1, .slice (some ⟨w5.heap.size + 1, 0, none⟩) 1 1] 62)) := (Below.refl _ _).alloc (Nat.le_refl _) _
  have n3 := heap_alloc_new A2 (.cells #[.slice (some ⟨gO, 0, none⟩) n n, .slice (some ⟨w5.heap.size, 0, none⟩) 1 1, .slice (some ⟨w5.heap.size + 1, 0, none⟩) 1 1] 62)
  rw [e2] at n3
  generalize A2.alloc (.cells #[.slice (some ⟨gO, 0, none⟩) n n, .slice (some ⟨w5.heap.size, 0, none⟩) 1 1, .slice (some ⟨w5.heap.size + 1, 0, none⟩) 1 1] 62) = A3 at *
  have h1 := row_below (row_below n1 hb2) hb3
  have h2 := row_below n2 hb3
  have hO3 := ownsRow_below (ownsRow_below (ownsRow_below hO hb1) hb2) hb3
  have hS3 := ownsRow_below (ownsRow_below (ownsRow_below hS hb1) hb2) hb3
  have lO := own_lt hO
  have lS := own_lt hS
  refine ⟨⟨fun i hi => ?_, fun i j hi hj hij b hbi => ?_⟩, by omega, n3, by omega, ?_, fun _ _ => ⟨by omega, by omega⟩, rfl, rfl, fun _ _ => rfl⟩
  · match i, hi with
    | 0, _ => exact owns_nat hO3 (by simp)
    | 1, _ => exact own_one h2 (by omega)
    | 2, _ => exact owns_nat hS3 (by simp)
  · match i, hi, j, hj with
    | 0, _, 0, _ => omega
    | 0, _, 1, _ => simp [v3, Value.ownBlock] at hbi ⊢; omega
    | 0, _, 2, _ => simp [v3, Value.ownBlock] at hbi ⊢; omega
    | 1, _, 0, _ => simp [v3, Value.ownBlock] at hbi ⊢; omega
    | 1, _, 1, _ => omega
    | 1, _, 2, _ => simp [v3, Value.ownBlock] at hbi ⊢; omega
    | 2, _, 0, _ => simp [v3, Value.ownBlock] at hbi ⊢; omega
    | 2, _, 1, _ => simp [v3, Value.ownBlock] at hbi ⊢; omega
    | 2, _, 2, _ => omega
  · exact ⟨rfl, .inr ⟨w5.heap.size, 1, _, rfl, hs, h1, Nat.le_refl _, by unfold maxLen; omega, rfl, rfl⟩⟩
theorem PtM.start {n : Nat} (hn : 0 < n) : PtM n 1 (List.replicate n 0) [0] (fun _ => List.range n) := by
  have h0 : ∀ s, s < n → (List.replicate n 0).getD s 0 = 0 := fun s hs => by simp [List.getD, hs]
  refine ⟨by simp, fun s hs => by rw [h0 s hs]; omega, fun x hx s => ?_, fun _ _ => List.nodup_range, fun _ _ => by simpa using hn, fun b hb => by simp at hb; omega⟩
  rw [List.mem_range]
  exact ⟨fun h => ⟨h, by rw [h0 s h]; omega⟩, fun h => h.1⟩
/-- What partByAnswers answers. -/
def PaR (w : World) (d : DfaD) (e : Ending) (w' : World) : Prop :=
  ∃ (p g' c' m' : Nat) (mi' : Nat → Nat) (v' : Nat → Value) (l' : Nat → List Int) (N' : Nat) (o' wk' : List Nat) (mem' : Nat → List Nat), e = .returned (.pointer (some ⟨p, 0, none⟩)) ∧ PtS w.heap.size w' p (.slice (some ⟨g', 0, none⟩) m' c') m' mi' v' l' N' o' wk' mem' ∧ PtM d.tag.length m' o' wk' mem' ∧
    (∀ s t, s < d.tag.length → t < d.tag.length → (o'.getD s 0 = o'.getD t 0 ↔ anN d s = anN d t)) ∧ (∀ s, s < d.tag.length → o'.getD s 0 ∈ wk') ∧ wk'.length = m' ∧ Below w.heap.size w w'
theorem groups_iff {d : DfaD} (hf : DfaFine d) {s t : Nat} (hs : s < d.tag.length) (ht : t < d.tag.length) : (∀ g ∈ (List.range (kindsF (List.replicate d.tag.length 0) (trP d d.tag.length) (List.range d.tag.length)).length).map (grpJ (List.replicate d.tag.length 0) (trP d d.tag.length) (List.range d.tag.length)), (s ∈ g ↔ t ∈ g)) ↔ anN d s = anN d t := by
  have hk : ∀ x, x < d.tag.length → kindF (List.replicate d.tag.length 0) (trP d d.tag.length) x = ansT d x := fun x hx => by
    unfold kindF trP
    rw [if_pos hx]
    simp [ansT, List.getD, hx]
  have hk2 : ansT d s = ansT d t ↔ anN d s = anN d t := by
    have s1 := allIn_at hf.ts (k := s) (by omega)
    have s2 := allIn_at hf.es (k := s) (by have := hf.fl; omega)
    have t1 := allIn_at hf.ts (k := t) (by omega)
    have t2 := allIn_at hf.es (k := t) (by have := hf.fl; omega)
    unfold ansT anN
    simp only [Prod.mk.injEq, true_and, and_true]
    constructor
    · rintro ⟨a, b⟩; exact ⟨by omega, by omega⟩
    · rintro ⟨a, b⟩; exact ⟨by rw [a], by rw [b]⟩
  rw [← hk2, ← hk s hs, ← hk t ht]
  constructor
  · intro h
    have hm : kindF (List.replicate d.tag.length 0) (trP d d.tag.length) s ∈ kindsF (List.replicate d.tag.length 0) (trP d d.tag.length) (List.range d.tag.length) := kindsF_mem.2 ⟨s, by simpa using hs, rfl⟩
    have := (h _ (List.mem_map.2 ⟨idxR _ _, by simpa using idxR_lt.2 hm, rfl⟩)).1 (by unfold grpJ; rw [getD_idxR hm]; exact grpF_mem.2 ⟨by simpa using hs, rfl⟩)
    unfold grpJ at this
    rw [getD_idxR hm] at this
    exact (grpF_mem.1 this).2.symm
  · intro h g hg
    obtain ⟨j, _, rfl⟩ := List.mem_map.1 hg
    unfold grpJ
    rw [grpF_mem, grpF_mem, h]
    simp [hs, ht]

set_option maxRecDepth 100000 in
set_option maxHeartbeats 4000000 in
theorem partBy_ok (cv nv tv ev : Value) (d : DfaD) (w : World) (hs : DfaAt 0 w cv nv tv ev d) (hf : DfaFine d) :
    Calls Try.prog 34 #[.agg #[cv, .int .i64 d.width, nv, tv, ev]] w (PaR w d) := by
  have hmix : Try.prog.follows .mixedOrders = true := by kernel_rfl
  obtain ⟨i0, hi, hz0, hz1, hz2⟩ := info_parts Try.infoInt
  obtain ⟨iT, hjT, hyT0, hyT1, hyT2⟩ := info_parts Try.infoTrait
  have hn1 := hf.n1
  have hn2 := hf.n2
  obtain ⟨⟨ca, cc, rfl, cm, cx⟩, ⟨na, nc, rfl, nm, nx⟩, ⟨ta, tc, rfl, tm, tx⟩, ⟨ea, ec, rfl, em, ex⟩⟩ := hs
  obtain ⟨tb, to2, rfl, _, tl, tq⟩ := tx (by omega)
  obtain ⟨eb, eo2, rfl, _, el, eq⟩ := ex (by have := hf.fl; omega)
  generalize Value.slice ca d.classes.length cc = cv at *
  generalize Value.slice na d.next.length nc = nv at *
  obtain ⟨W0, hW0⟩ : ∃ W0, w.alloc (.cells #[cv, .int .i64 d.width, nv, .slice (some ⟨tb, to2, none⟩) d.tag.length tc, .slice (some ⟨eb, eo2, none⟩) d.fin.length ec] 26) = W0 := ⟨_, rfl⟩
  have hb0 : Below w.heap.size w W0 := by rw [← hW0]; exact (Below.refl _ _).alloc (Nat.le_refl _) _
  have x0 : W0.heap[w.heap.size]? = some (.cells #[cv, .int .i64 d.width, nv, .slice (some ⟨tb, to2, none⟩) d.tag.length tc, .slice (some ⟨eb, eo2, none⟩) d.fin.length ec] 26 (0, 0)) := by rw [← hW0]; exact heap_alloc_new _ _
  have hl0 : w.heap.size < W0.heap.size := row_lt x0
  have Hsz : Hid (W0.heap.size = w.heap.size + 1) := by show _ = _; rw [← hW0]; simp
  have Hb0 : Hid _ := hb0
  obtain ⟨q0, q1, q2, q3, q4⟩ := row_five x0
  go_enter Try.func34, Try.ntmps34
  go_wp2_with (first | (refine wpList_make_full _ rfl _ _ 22 rfl W0.heap.size 3 i0 _ 1 Try.underlying22 hi hz0 hz1 _ _ _ _ d.tag.length rfl rfl rfl rfl (by rw [hz2]; omega) (by unfold maxLen; omega) (Nat.le_refl _) ?_; intro w1 hown1 hgrow1) | (refine wpList_make_full _ rfl _ _ 60 rfl w1.heap.size 68 iT _ 5 Try.underlying60 hjT hyT0 hyT1 _ _ _ _ d.tag.length rfl rfl rfl rfl (by rw [hyT2]; omega) (by unfold maxLen; omega) (Nat.le_refl _) ?_; intro w2 hown2 hgrow2))
  have hb1 : Below W0.heap.size W0 w1 := (Below.refl _ _).grown hgrow1 (Nat.le_refl _) (by intro k h; cases h)
  have hb2 : Below w1.heap.size w1 w2 := (Below.refl _ _).grown hgrow2 (Nat.le_refl _) (by intro k h; cases h)
  have hg1 := own_lt hown1
  have r1 := ownsRow_below hown1 hb2
  rw [made_nats, ← stP_zero] at r1
  have r2 := own_fullS hown2
  rw [made_traits] at r2
  have r3 : w2.heap[w1.heap.size]? = some (.cells (trRow d.tag.length (trP d 0)) 68 (0, 0)) := r2
  have hb02 : Below W0.heap.size W0 w2 := hb1.trans (hb2.mono hb1.size)
  have hs01 := hb1.size
  have HF : Hid (DfaFine d) := hf
  have Htq : Hid (∀ W, Below W0.heap.size W0 W → ∀ s, s < d.tag.length → W.cell? ⟨tb, to2 + s, none⟩ = some (.int .i64 (d.tag.getD s 0)) ∧ W.cell? ⟨eb, eo2 + s, none⟩ = some (.int .i64 (d.fin.getD s 0))) := fun W hW s hs => by
    have hBW : Below w.heap.size w W := hb0.trans (hW.mono hb0.size)
    exact ⟨by rw [hBW.cell (p := ⟨tb, to2 + s, none⟩) tl]; exact tq s hs, by rw [hBW.cell (p := ⟨eb, eo2 + s, none⟩) el]; exact eq s (by have := hf.fl; omega)⟩
  clear hgrow1 hgrow2 hown1 hown2 r2 q0 q1 q2 q3 q4 tq eq hf hW0
  go_loopw [17] (fun i wr => ∃ k : Nat, k ≤ d.tag.length ∧ i = .int .i64 k ∧ wr.ownsRow W0.heap.size 3 1 (.slice (some ⟨W0.heap.size, 0, none⟩) d.tag.length d.tag.length) d.tag.length (natL (stP d.tag.length k)) ∧ wr.heap[w1.heap.size]? = some (.cells (trRow d.tag.length (trP d k)) 68 (0, 0)) ∧ Below W0.heap.size W0 wr)
    (fun i _ => d.tag.length - (intOf i).toNat)
  case atStart => exact ⟨0, Nat.zero_le _, rfl, r1, r3, hb02⟩
  case round =>
    clear r1 r3 hb02
    obtain ⟨k, hk, rfl, hown, hrow, hb⟩ := hrel
    by_cases hlt : k < d.tag.length
    · obtain ⟨u0, d0⟩ := own_cell hown (j := k) (by omega)
      have f0 := hown.frozenAt k
      have hst := (hown.stored k (.int .i64 (k : Int))).1
      rw [natL_set, stP_set hlt] at hst
      have hi1 : (k : Int) < (d.tag.length : Int) := by omega
      have hif : (k : Int) < (d.fin.length : Int) := by have := HF.out.fl; omega
      have ht1 := allIn_at HF.out.ts (k := k) (by omega)
      have ht2 := allIn_at HF.out.es (k := k) (by have := HF.out.fl; omega)
      obtain ⟨Wx, hWx⟩ : ∃ Wx, wr.setCell ⟨W0.heap.size, k, none⟩ (.int .i64 (k : Int)) = Wx := ⟨_, rfl⟩
      rw [hWx] at hst
      have hbx : Below W0.heap.size W0 Wx := by rw [← hWx]; exact hb.setCell (Nat.le_refl _) _
      have hrx : Wx.heap[w1.heap.size]? = some (.cells (trRow d.tag.length (trP d k)) 68 (0, 0)) := by
        rw [← hWx]
        exact (heap_setCell_other _ _ _ _ (by simp; omega)).trans hrow
      obtain ⟨q0, q1, q2, q3, q4⟩ := row_five ((hbx.block _ hl0).trans x0)
      obtain ⟨c1, c2⟩ := Htq.out Wx hbx k hlt
      obtain ⟨z0, z1, z2, z3, z4⟩ := tr_cells hrx hlt
      have fz : ∀ o, Wx.frozen? ⟨w1.heap.size, o, none⟩ = false := fun _ => frozen_of_row _ _ _ _ _ hrx
      have hset := set5_heap hrx k (ansT d k)
      rw [trP_set] at hset
      have e1 : (((d.tag.getD k 0 + 1).toNat : Nat) : Int) = d.tag.getD k 0 + 1 := Int.toNat_of_nonneg (by have := ht1; omega)
      have e2 : (((d.fin.getD k 0 + 1).toNat : Nat) : Int) = d.fin.getD k 0 + 1 := Int.toNat_of_nonneg (by have := ht2; omega)
      unfold ansT at hset
      simp only [e1, e2] at hset
      have HN : Hid _ := hset
      have Hst : Hid _ := hst
      have Hbx : Hid _ := hbx
      have Hrx : Hid _ := hrx
      clear hset hst hrow hrx e1 e2 hbx hb hown
      generalize d.tag.getD k 0 = t1 at *
      generalize d.fin.getD k 0 = t2 at *
      have HX : Hid (∀ nq : Nat, ((((((Wx.drewN nq).setCell ⟨w1.heap.size, k * 5, none⟩ (.int .u64 0)).setCell ⟨w1.heap.size, k * 5 + 1, none⟩ (.int .u64 (t1 + 1))).setCell ⟨w1.heap.size, k * 5 + 2, none⟩ (.int .u64 (t2 + 1))).setCell ⟨w1.heap.size, k * 5 + 3, none⟩ (.int .u64 0)).setCell ⟨w1.heap.size, k * 5 + 4, none⟩ (.int .u64 0)).ownsRow W0.heap.size 3 1 (.slice (some ⟨W0.heap.size, 0, none⟩) d.tag.length d.tag.length) d.tag.length (natL (stP d.tag.length (k + 1))) ∧
          ((((((Wx.drewN nq).setCell ⟨w1.heap.size, k * 5, none⟩ (.int .u64 0)).setCell ⟨w1.heap.size, k * 5 + 1, none⟩ (.int .u64 (t1 + 1))).setCell ⟨w1.heap.size, k * 5 + 2, none⟩ (.int .u64 (t2 + 1))).setCell ⟨w1.heap.size, k * 5 + 3, none⟩ (.int .u64 0)).setCell ⟨w1.heap.size, k * 5 + 4, none⟩ (.int .u64 0)).heap[w1.heap.size]? = some (.cells (trRow d.tag.length (trP d (k + 1))) 68 (0, 0)) ∧
          Below W0.heap.size W0 ((((((Wx.drewN nq).setCell ⟨w1.heap.size, k * 5, none⟩ (.int .u64 0)).setCell ⟨w1.heap.size, k * 5 + 1, none⟩ (.int .u64 (t1 + 1))).setCell ⟨w1.heap.size, k * 5 + 2, none⟩ (.int .u64 (t2 + 1))).setCell ⟨w1.heap.size, k * 5 + 3, none⟩ (.int .u64 0)).setCell ⟨w1.heap.size, k * 5 + 4, none⟩ (.int .u64 0))) := fun nq => by
        have hle : W0.heap.size ≤ w1.heap.size := hs01
        refine ⟨own_keepM Hst.out fun b cs hb => ?_, HN.out, ((((((below_drewN Hbx.out nq).setCell hle _).setCell hle _).setCell hle _).setCell hle _).setCell hle _)⟩
        have hne : b ≠ w1.heap.size := fun e => by
          rw [e, Hrx.out] at hb
          exact absurd (cells_typeM hb) (by decide)
        rw [heap_setCell_other _ _ _ _ (by exact hne), heap_setCell_other _ _ _ _ (by exact hne), heap_setCell_other _ _ _ _ (by exact hne), heap_setCell_other _ _ _ _ (by exact hne), heap_setCell_other _ _ _ _ (by exact hne)]
        exact hb
      have hw1 : IntKind.u64.wrap (t1 + 1) = t1 + 1 := by
        unfold IntKind.wrap
        simp [IntKind.signed, IntKind.bits]
        omega
      have hw2' : IntKind.u64.wrap (t2 + 1) = t2 + 1 := by
        unfold IntKind.wrap
        simp [IntKind.signed, IntKind.bits]
        omega
      go_wp2
      refine wp_region_lastN 18 hmix (by kernel_rfl) rfl rfl rfl ?_
      intro os hos
      simp only [List.take_succ_cons, List.take_zero] at hos
      subst hos
      repeat (go_big_quiet_step (fail))
      refine wpQuiet_nil ?_
      intro w' hw' K hK
      obtain ⟨nq, rfl⟩ := hw'
      first | go_big_move | go_big_op
      refine hK _ _ ?_
      go_wp2
      go_roundw
      case rel =>
        obtain ⟨a1, a2, a3⟩ := HX.out nq
        exact ⟨k + 1, by omega, by go_num, a1, a2, a3⟩
      case measure => simp [intOf]; omega
    · have hkk : k = d.tag.length := by omega
      subst hkk
      rw [stP_end] at hown
      obtain ⟨W4, hW4⟩ : ∃ W4, W4 = wr := ⟨_, rfl⟩
      subst hW4
      have hb4 := hb.size
      have hbp : Try.prog.built 62 [(0, .slice (some ⟨W4.heap.size, 0, none⟩) d.tag.length d.tag.length), (1, .slice (some ⟨W4.heap.size + 1, 0, none⟩) 1 1), (2, .slice (some ⟨W4.heap.size + 2, 0, none⟩) 1 1)] = some #[.slice (some ⟨W4.heap.size, 0, none⟩) d.tag.length d.tag.length, .slice (some ⟨W4.heap.size + 1, 0, none⟩) 1 1, .slice (some ⟨W4.heap.size + 2, 0, none⟩) 1 1] := by kernel_rfl
      go_wp2_with (first | (refine wpList_make_full _ rfl _ _ 22 rfl W4.heap.size 3 i0 _ 1 Try.underlying22 hi hz0 hz1 _ _ _ _ d.tag.length rfl rfl rfl rfl (by rw [hz2]; omega) (by unfold maxLen; omega) (Nat.le_refl _) ?_; intro w5 hown5 hgrow5))
      have hb5 : Below W4.heap.size W4 w5 := (Below.refl _ _).grown hgrow5 (Nat.le_refl _) (by intro k h; cases h)
      rw [made_nats] at hown5
      have hgt : w.heap.size + 1 = W0.heap.size := Hsz.out.symm
      have hPS := PtS.start (gt := w.heap.size) (own_monoN hown5 (by omega)) (by rw [hgt]; exact ownsRow_below hown hb5) (by have := own_lt hown; omega) (by have := hb5.size; omega)
      have hbA : Below w5.heap.size w5 (((w5.alloc (.cells #[.slice (some ⟨W0.heap.size, 0, none⟩) d.tag.length d.tag.length] 22)).alloc (.cells #[.int .i64 0] 3)).alloc (.cells #[.slice (some ⟨W4.heap.size, 0, none⟩) d.tag.length d.tag.length, .slice (some ⟨w5.heap.size, 0, none⟩) 1 1, .slice (some ⟨w5.heap.size + 1, 0, none⟩) 1 1] 62)) := (((Below.refl _ _).alloc (Nat.le_refl _) _).alloc (by simp) _).alloc (by simp; omega) _
      have hrA := row_below (row_below hrow hb5) hbA
      have hcut := cut_ok 2 (List.range d.tag.length) w1.heap.size d.tag.length (trP d d.tag.length) _ hPS (PtM.start (by omega)) ⟨by omega, by omega⟩ rfl List.nodup_range (fun s hs => by simpa using hs) (by omega) (by omega) (by simp) hrA
      refine hcut.mono ?_
      rintro e w6 ⟨rfl, g', c', m', mi', v', l', N', o', wk', mem', Y1, Y2, Y3, Y4, Y5, Y6, Y7, Y8, Y9, Y10⟩
      have HY : Hid (PaR w d (.returned (.pointer (some ⟨w5.heap.size + 1 + 1, 0, none⟩))) w6) := by
        refine ⟨_, g', c', m', mi', v', l', N', o', wk', mem', rfl, Y1, Y2, fun s t hs ht => ?_, fun s hs => ?_, by simp at Y5; omega, ?_⟩
        · rw [Y3.iff s t hs ht, groups_iff HF.out hs ht]
          simp [List.getD, hs, ht]
        · rcases Y3.num s hs with k | k
          · rw [k]
            simp only [List.getD, List.getElem?_replicate_of_lt hs, Option.getD_some]
            exact Y3.up 0 (by simp)
          · exact k
        · have B1 := Hb0.out.trans (hb.mono Hb0.out.size)
          have B2 := B1.trans (hb5.mono B1.size)
          have B3 := B2.trans (hbA.mono B2.size)
          exact B3.trans (Y8.mono (by omega))
      clear Y1 Y2 Y3 Y4 Y5 Y6 Y7 Y8 Y9 Y10 hcut hrA hPS hbA
      go_wp2
      refine bodyPost_ret (v := .pointer (some ⟨w5.heap.size + 1 + 1, 0, none⟩)) (by simp [results, Try.results34, go_sem]) rfl HY.out
end Go.Proofs.Ytgbdlgogccgciaa
