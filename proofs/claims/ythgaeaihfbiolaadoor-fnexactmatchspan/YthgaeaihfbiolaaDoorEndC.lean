import Derived.Test.YthgaeaihfbiolaaDoorEndB
namespace Go.Proofs.YthgaeaihfbiolaaDoor
open Go.RowKit
attribute [local go_sem ↓] Go.wp_at_zero Go.wp_at_succ

def setL (m : Nat) (S : List Bool) (f : Nat → Bool) (u : Word) : Nat → List Bool
  | 0 => List.replicate m false
  | k + 1 => if (S.getD k false && f (u.getD k 0).toNat) = true then (setL m S f u k).set (k + 1) true else setL m S f u k
theorem setL_len (m : Nat) (S : List Bool) (f : Nat → Bool) (u : Word) : ∀ k, (setL m S f u k).length = m
  | 0 => by simp [setL]
  | k + 1 => by rw [setL]; split <;> simp [setL_len m S f u k]
theorem setL_iff (m : Nat) (S : List Bool) (f : Nat → Bool) (u : Word) : ∀ k, k < m → ∀ j, (setL m S f u k).getD j false = true ↔ ∃ i, i < k ∧ j = i + 1 ∧ S.getD i false = true ∧ f (u.getD i 0).toNat = true
  | 0, _, j => by
    rw [setL, List.getD_eq_getElem?_getD, List.getElem?_replicate]
    constructor
    · intro h; split at h <;> cases h
    · rintro ⟨i, h, _⟩; exact absurd h (Nat.not_lt_zero _)
  | k + 1, hk, j => by
    have ih := setL_iff m S f u k (by omega) j
    rw [setL]
    split
    · rename_i hc
      rw [Bool.and_eq_true] at hc
      rw [List.getD_eq_getElem?_getD, List.getElem?_set]
      by_cases e : k + 1 = j
      · rw [if_pos e, if_pos (by rw [setL_len]; omega)]
        exact ⟨fun _ => ⟨k, by omega, e.symm, hc⟩, fun _ => rfl⟩
      · rw [if_neg e, ← List.getD_eq_getElem?_getD, ih]
        constructor
        · rintro ⟨i, h1, h2⟩; exact ⟨i, by omega, h2⟩
        · rintro ⟨i, h1, h2, h3⟩; exact ⟨i, by omega, h2, h3⟩
    · rename_i hc
      rw [ih]
      constructor
      · rintro ⟨i, h1, h2⟩; exact ⟨i, by omega, h2⟩
      · rintro ⟨i, h1, h2, h3, h4⟩
        refine ⟨i, ?_, h2, h3, h4⟩
        by_cases e : i = k
        · subst e; exact absurd (by rw [h3, h4]; rfl) hc
        · omega
theorem isSet_set {m : Nat} {S : List Bool} {f : Nat → Bool} {u : Word} {F : Nat → Prop} (hm : m = u.length + 1) (hF : IsSet u.length S F) : IsSet u.length (setL m S f u u.length) (EndsAt u (In (.set f)) F) := by
  refine ⟨by rw [setL_len, hm], fun j => ?_⟩
  rw [setL_iff m S f u u.length (by omega), ends_set]
  constructor
  · rintro ⟨i, h1, h2, h3, h4⟩
    exact ⟨i, h1, h2, (hF.iff i).1 h3, by simpa [List.getD_eq_getElem?_getD, List.getElem?_eq_getElem h1] using h4⟩
  · rintro ⟨i, h1, h2, h3, h4⟩
    exact ⟨i, h1, h2, (hF.iff i).2 h3, by simpa [List.getD_eq_getElem?_getD, List.getElem?_eq_getElem h1] using h4⟩

theorem row_lt' {w : World} {g : Nat} {o : Obj} (h : w.heap[g]? = some o) : g < w.heap.size := (Array.getElem?_eq_some_iff.1 h).1
/-- Where l1Ends stands in a set. -/
structure SetI (w wr : World) (ob nb : Obj) (m k : Nat) (T : List Bool) : Prop where
  below : Below w.heap.size w wr
  box : wr.heap[w.heap.size]? = some ob
  node : wr.heap[w.heap.size + 1]? = some nb
  row : wr.ownsRow w.heap.size 4 1 (.slice (some ⟨w.heap.size + 1 + 1, 0, none⟩) m m) m (T.map Value.bool)

theorem SetI.call {w wr w2 : World} {ob nb : Obj} {m k : Nat} {T : List Bool} (h : SetI w wr ob nb m k T) (hb : Below wr.heap.size wr w2) : SetI w w2 ob nb m (k + 1) T :=
  ⟨below_step h.below h.below.size hb, row_below' h.box hb, row_below' h.node hb, ownsRow_below h.row hb⟩
theorem SetI.drew {w wr : World} {ob nb : Obj} {m k : Nat} {T : List Bool} (h : SetI w wr ob nb m k T) : SetI w wr.drew ob nb m (k + 1) T := h.call (Below.refl _ _).drew
theorem SetI.put {w wr : World} {ob nb : Obj} {m k j : Nat} {T : List Bool} (h : SetI w wr ob nb m k T) : SetI w (wr.setCell ⟨w.heap.size + 1 + 1, j, none⟩ (.bool true)) ob nb m k (T.set j true) :=
  ⟨h.below.setCell (by simp; omega) _, (Below.heap_setCell _ _ _ _ (by simp; omega)).trans h.box, (Below.heap_setCell _ _ _ _ (by simp)).trans h.node, by rw [List.map_set]; exact (h.row.stored j (.bool true)).1⟩

theorem row_fiveN {w : World} {g : Nat} {a b c d e : Value} {t : TypeId} (h : w.heap[g]? = some (.cells #[a, b, c, d, e] t (0, 0))) : w.cell? ⟨g, 0, none⟩ = some a ∧ w.cell? ⟨g, 1, none⟩ = some b ∧ w.cell? ⟨g, 2, none⟩ = some c ∧ w.cell? ⟨g, 3, none⟩ = some d ∧ w.cell? ⟨g, 4, none⟩ = some e := by
  have : ∀ o, w.cell? ⟨g, o, none⟩ = #[a, b, c, d, e][o]? := fun _ => cell_of_row _ _ _ _ _ _ h
  exact ⟨this 0, this 1, this 2, this 3, this 4⟩

set_option maxRecDepth 100000 in
set_option maxHeartbeats 2000000 in
theorem endsC_set (ns : List NodeD) (n : Nat) (hn : n < ns.length) (hk : kindAt ns n = 1) (hT : tOf ns n = .set (hasF (ns.getD n .zero).set)) : EndsC ns n := by
  intro w ao c gl cl gr cr t g cap m S F hbr hS hSm hF ht
  rw [hT]
  obtain ⟨ao2, cap2, hv, hml, hc⟩ := hbr.nodes
  cases hv
  obtain ⟨b, o, sv, nd, rfl, Hn, hbl, c0, c1, c2, c3, c4, hsv⟩ := hc.elem (Below.refl _ _) hn
  have hk1 : nd.kind = 1 := by rw [← hk]; unfold kindAt; rw [Hn.out]
  rw [hk1] at c0
  rw [Hn.out]
  have hsv0 := hsv
  obtain ⟨sao, scp, rfl, hsm, hsc⟩ := hsv
  have Hm : Hid (m = t.size + 1) := by show _ = _; rw [← hSm]; exact hF.len
  have hm5 : m ≤ 1048576 := by rw [Hm.out]; omega
  have hm6 : t.size < m := by rw [Hm.out]; omega
  have hHas := fun (W : World) (hb : Below w.heap.size w W) (ch : Nat) (h8 : ch < 256) => has_ok _ nd.set ch W (hsv0.below hb) h8
  clear hk hT hk1 hc hsc hsv0
  obtain ⟨i0, hi, hz0, hz1, hz2⟩ := info_parts Tryd.infoBoolE
  have hi0 : (0 : Int) ≤ (n : Int) := by omega
  have hi1 : (n : Int) < (ns.length : Int) := by omega
  go_enter Tryd.func27, Tryd.ntmps27
  go_wp2_with (refine wpList_make_full _ rfl _ _ 65 rfl w.heap.size 4 i0 _ 1 Tryd.underlying65 hi hz0 hz1 _ _ _ _ m rfl rfl rfl rfl (by rw [hz2]; omega) (by unfold maxLen; omega) (by simp; omega) ?_; intro w1 hown hgrow; rw [made_bools] at hown)
  have hI0 : SetI w w1 (.cells #[.slice (some ⟨b, o, none⟩) ns.length c, .slice (some ⟨gl, 0, none⟩) ns.length cl, .slice (some ⟨gr, 0, none⟩) ns.length cr, .string t] 69 (0, 0)) (.cells #[.int .i64 1, .slice sao nd.set.length scp, .int .i64 nd.min, .int .i64 nd.max, .int .i64 nd.group] 106 (0, 0)) m 0 (setL m S (hasF nd.set) t.data.toList 0) := by
    have hba := ((Below.refl w.heap.size w).alloc (Nat.le_refl _) (.cells #[.slice (some ⟨b, o, none⟩) ns.length c, .slice (some ⟨gl, 0, none⟩) ns.length cl, .slice (some ⟨gr, 0, none⟩) ns.length cr, .string t] 69)).alloc (by simp) (.cells #[.int .i64 1, .slice sao nd.set.length scp, .int .i64 nd.min, .int .i64 nd.max, .int .i64 nd.group] 106)
    refine ⟨hba.grown hgrow (by simp; omega) (by intro k h; cases h), ?_, ?_, ?_⟩
    · exact (hgrow.block _ (by simp; omega) (by simp)).trans (row_alloc (heap_alloc_new _ _))
    · refine (hgrow.block _ (by simp) (by simp)).trans ?_
      have := heap_alloc_new (w.alloc (.cells #[.slice (some ⟨b, o, none⟩) ns.length c, .slice (some ⟨gl, 0, none⟩) ns.length cl, .slice (some ⟨gr, 0, none⟩) ns.length cr, .string t] 69)) (.cells #[.int .i64 1, .slice sao nd.set.length scp, .int .i64 nd.min, .int .i64 nd.max, .int .i64 nd.group] 106)
      simpa using this
    · simpa [setL] using hown
  clear hown hgrow c0 c1 c2 c3 c4
  go_loopw [9] (fun i wr => ∃ k : Nat, k ≤ t.size ∧ i = .int .i64 k ∧ SetI w wr (.cells #[.slice (some ⟨b, o, none⟩) ns.length c, .slice (some ⟨gl, 0, none⟩) ns.length cl, .slice (some ⟨gr, 0, none⟩) ns.length cr, .string t] 69 (0, 0)) (.cells #[.int .i64 1, .slice sao nd.set.length scp, .int .i64 nd.min, .int .i64 nd.max, .int .i64 nd.group] 106 (0, 0)) m k (setL m S (hasF nd.set) t.data.toList k)) (fun i _ => t.size - (intOf i).toNat)
  case atStart => exact ⟨0, Nat.zero_le _, rfl, hI0⟩
  case round =>
    clear hI0
    obtain ⟨k, hk, rfl, hI⟩ := hrel
    obtain ⟨a0, a1, a2, a3⟩ := row_four hI.box
    by_cases hlt : k < t.size
    · have Hs : Hid (setL m S (hasF nd.set) t.data.toList (k + 1) = if (S.getD k false && hasF nd.set (t.data.toList.getD k 0).toNat) = true then (setL m S (hasF nd.set) t.data.toList k).set (k + 1) true else setL m S (hasF nd.set) t.data.toList k) := rfl
      have g0 := (hI.below.cell (p := ⟨g, k, none⟩) hS.1).trans (hS.2 k (by rw [hSm]; omega))
      obtain ⟨n0, n1, n2, n3, n4⟩ := row_fiveN hI.node
      have hj0 : (0 : Int) ≤ (k : Int) := by omega
      have hj1 : (k : Int) < (m : Int) := by omega
      have hj2 : (k : Int) < (t.size : Int) := by omega
      generalize S.getD k false = a at *
      have hlg : g < wr.heap.size := Nat.lt_of_lt_of_le hS.1 hI.below.size
      have hlb := row_lt' hI.box
      have hln := row_lt' hI.node
      have hch := fun (W : World) (hb : Below w.heap.size w W) => hHas W hb (t[k]'hlt).toNat (UInt8.toNat_lt _)
      have HC : Hid ((t.data.toList.getD k 0).toNat = (t[k]'hlt).toNat) := by
        show _ = _
        rw [List.getD_eq_getElem?_getD, List.getElem?_eq_getElem (show k < t.data.toList.length by simpa using hlt)]
        rfl
      cases a
      · go_wp2
        go_region
        go_wp2
        go_roundw
        case rel => exact ⟨k + 1, by omega, by go_num, by rw [Hs.out, Bool.false_and, if_neg (by decide)]; exact hI.drew⟩
        case measure => simp [intOf]; omega
      · go_wp2
        go_region_held3 (fun w' => w'.cell? ⟨g, k, none⟩ = some (.bool true) ∧ w'.cell? ⟨w.heap.size, 3, none⟩ = some (.string t) ∧ w'.cell? ⟨w.heap.size + 1, 1, none⟩ = some (.slice sao nd.set.length scp)) ((first | go_keep | exact ⟨(hb2.cell (by exact hlg)).trans g0, (hb2.cell (by exact hlb)).trans a3, (hb2.cell (by exact hln)).trans n1⟩)) ((go_at_call 50; refine (hch _ hI.drew.below).mono ?_; rintro e w2 ⟨rfl, hb2⟩))
        have hbd : Below wr.heap.size wr w2 := below_step (Below.refl _ _).drew (Nat.le_refl _) hb2
        have hI2 := hI.call hbd
        rw [← HC.out]
        cases hq : hasF nd.set (t.data.toList.getD k 0).toNat
        · go_wp2
          go_roundw
          case rel => exact ⟨k + 1, by omega, by go_num, by rw [Hs.out, hq, Bool.and_false, if_neg (by decide)]; exact hI2⟩
          case measure => simp [intOf]; omega
        · obtain ⟨u0, d0⟩ := own_cell hI2.row (j := k + 1) (by omega)
          have f0 := hI2.row.frozenAt (k + 1)
          have hj3 : (k : Int) + 1 < (m : Int) := by omega
          go_wp2
          go_roundw
          case rel => exact ⟨k + 1, by omega, by go_num, by rw [Hs.out, hq, Bool.and_true, if_pos rfl]; exact hI2.put⟩
          case measure => simp [intOf]; omega
    · have hkk : k = t.size := by omega
      go_wp2
      have hu : t.data.toList.length = t.size := by simp
      have hs := isSet_set (m := m) (S := S) (f := hasF nd.set) (u := t.data.toList) (F := F) (by rw [hu]; exact Hm.out) (by rw [hu]; exact hF)
      rw [hu, ← hkk] at hs
      refine bodyPost_ret (v := .slice (some ⟨w.heap.size + 1 + 1, 0, none⟩) m m) (by simp [results, Tryd.results27, go_sem]) rfl ⟨_, _, _, rfl, ⟨own_lt hI.row, fun i hi => ?_⟩, setL_len _ _ _ _ _, by rw [← hkk]; exact hs, hI.below⟩
      rw [hI.row.cellAt i (by rw [setL_len] at hi; omega), List.getElem?_map, List.getD_eq_getElem?_getD, List.getElem?_eq_getElem hi]
      rfl
end Go.Proofs.YthgaeaihfbiolaaDoor
