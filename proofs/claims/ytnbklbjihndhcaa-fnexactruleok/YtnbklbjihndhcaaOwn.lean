import Derived.Test.YtnbklbjihndhcaaSz
namespace Go.Proofs.Ytnbklbjihndhcaa
open Go.RowKit

theorem ownsRow_below {w w' : World} {base : Nat} {e : TypeId} {size : Nat} {v : Value} {n : Nat} {xs : List Value} (h : w.ownsRow base e size v n xs) (hb : Below w.heap.size w w') : w'.ownsRow base e size v n xs := by
  refine ⟨h.1, ?_⟩
  rcases h.2 with h2 | ⟨g, cap, cur, hv, hg, hh, r⟩
  · exact .inl h2
  · exact .inr ⟨g, cap, cur, hv, hg, by rw [hb.block g (Array.getElem?_eq_some_iff.1 hh).1]; exact hh, r⟩

/-- The first k elements (sz cells each) of a row are f's. -/
def Filled (xs : List Value) (sz k : Nat) (f : Nat → List Value) : Prop := ∀ j, j < k → ∀ c, c < sz → xs[j * sz + c]? = (f j)[c]?

theorem own_cell {w : World} {base : Nat} {e : TypeId} {sz n cap g : Nat} {xs : List Value} (h : w.ownsRow base e sz (.slice (some ⟨g, 0, none⟩) n cap) n xs) {j : Nat} (hj : j < n * sz) :
    ∃ u, w.cell? ⟨g, j, none⟩ = some u := by
  rw [h.cellAt j hj]
  exact ⟨_, List.getElem?_eq_getElem (by rw [h.1]; exact hj)⟩

theorem own_two {w : World} {base : Nat} {e : TypeId} {n cap g : Nat} {xs : List Value} (h : w.ownsRow base e 2 (.slice (some ⟨g, 0, none⟩) n cap) n xs) {k : Nat} (hk : k < n) :
    ∃ u0 u1, w.cell? ⟨g, k * 2, none⟩ = some u0 ∧ w.cell? ⟨g, k * 2 + 1, none⟩ = some u1 ∧ w.frozen? ⟨g, k * 2, none⟩ = false ∧ w.frozen? ⟨g, k * 2 + 1, none⟩ = false := by
  obtain ⟨u0, h0⟩ := own_cell h (j := k * 2) (by omega)
  obtain ⟨u1, h1⟩ := own_cell h (j := k * 2 + 1) (by omega)
  exact ⟨u0, u1, h0, h1, h.frozenAt _, h.frozenAt _⟩

theorem filled_two {xs : List Value} {k : Nat} {f : Nat → List Value} {a b : Value} (h : Filled xs 2 k f) (hl : k * 2 + 1 < xs.length) (hk : f k = [a, b]) : Filled ((xs.set (k * 2) a).set (k * 2 + 1) b) 2 (k + 1) f := by
  intro j hj c hc
  rw [List.getElem?_set, List.getElem?_set]
  by_cases e : j = k
  · subst e
    rw [hk]
    match c, hc with
    | 0, _ => simp; omega
    | 1, _ => simp; omega
  · rw [if_neg (by omega), if_neg (by omega)]
    exact h j (by omega) c hc

theorem filled_five {xs : List Value} {k : Nat} {f : Nat → List Value} {a0 a1 a2 a3 a4 : Value} (h : Filled xs 5 k f) (hl : k * 5 + 4 < xs.length) (hk : f k = [a0, a1, a2, a3, a4]) :
    Filled (((((xs.set (k * 5) a0).set (k * 5 + 1) a1).set (k * 5 + 2) a2).set (k * 5 + 3) a3).set (k * 5 + 4) a4) 5 (k + 1) f := by
  intro j hj c hc
  rw [List.getElem?_set, List.getElem?_set, List.getElem?_set, List.getElem?_set, List.getElem?_set]
  by_cases e : j = k
  · subst e
    rw [hk]
    match c, hc with
    | 0, _ => simp; omega
    | 1, _ => simp; omega
    | 2, _ => simp; omega
    | 3, _ => simp; omega
    | 4, _ => simp; omega
  · rw [if_neg (by omega), if_neg (by omega), if_neg (by omega), if_neg (by omega), if_neg (by omega)]
    exact h j (by omega) c hc

theorem filled_three {xs : List Value} {k : Nat} {f : Nat → List Value} {a0 a1 a2 : Value} (h : Filled xs 3 k f) (hl : k * 3 + 2 < xs.length) (hk : f k = [a0, a1, a2]) :
    Filled (((xs.set (k * 3) a0).set (k * 3 + 1) a1).set (k * 3 + 2) a2) 3 (k + 1) f := by
  intro j hj c hc
  rw [List.getElem?_set, List.getElem?_set, List.getElem?_set]
  by_cases e : j = k
  · subst e
    rw [hk]
    match c, hc with
    | 0, _ => simp; omega
    | 1, _ => simp; omega
    | 2, _ => simp; omega
  · rw [if_neg (by omega), if_neg (by omega), if_neg (by omega)]
    exact h j (by omega) c hc

theorem own_three {w : World} {base : Nat} {e : TypeId} {n cap g : Nat} {xs : List Value} (h : w.ownsRow base e 3 (.slice (some ⟨g, 0, none⟩) n cap) n xs) {k : Nat} (hk : k < n) :
    ∃ u0 u1 u2, w.cell? ⟨g, k * 3, none⟩ = some u0 ∧ w.cell? ⟨g, k * 3 + 1, none⟩ = some u1 ∧ w.cell? ⟨g, k * 3 + 2, none⟩ = some u2 ∧ w.frozen? ⟨g, k * 3, none⟩ = false ∧ w.frozen? ⟨g, k * 3 + 1, none⟩ = false ∧ w.frozen? ⟨g, k * 3 + 2, none⟩ = false := by
  obtain ⟨u0, h0⟩ := own_cell h (j := k * 3) (by omega)
  obtain ⟨u1, h1⟩ := own_cell h (j := k * 3 + 1) (by omega)
  obtain ⟨u2, h2⟩ := own_cell h (j := k * 3 + 2) (by omega)
  exact ⟨u0, u1, u2, h0, h1, h2, h.frozenAt _, h.frozenAt _, h.frozenAt _⟩
theorem own_five {w : World} {base : Nat} {e : TypeId} {n cap g : Nat} {xs : List Value} (h : w.ownsRow base e 5 (.slice (some ⟨g, 0, none⟩) n cap) n xs) {k : Nat} (hk : k < n) :
    ∃ u0 u1 u2 u3 u4, w.cell? ⟨g, k * 5, none⟩ = some u0 ∧ w.cell? ⟨g, k * 5 + 1, none⟩ = some u1 ∧ w.cell? ⟨g, k * 5 + 2, none⟩ = some u2 ∧ w.cell? ⟨g, k * 5 + 3, none⟩ = some u3 ∧ w.cell? ⟨g, k * 5 + 4, none⟩ = some u4 ∧
      w.frozen? ⟨g, k * 5, none⟩ = false ∧ w.frozen? ⟨g, k * 5 + 1, none⟩ = false ∧ w.frozen? ⟨g, k * 5 + 2, none⟩ = false ∧ w.frozen? ⟨g, k * 5 + 3, none⟩ = false ∧ w.frozen? ⟨g, k * 5 + 4, none⟩ = false := by
  obtain ⟨u0, h0⟩ := own_cell h (j := k * 5) (by omega)
  obtain ⟨u1, h1⟩ := own_cell h (j := k * 5 + 1) (by omega)
  obtain ⟨u2, h2⟩ := own_cell h (j := k * 5 + 2) (by omega)
  obtain ⟨u3, h3⟩ := own_cell h (j := k * 5 + 3) (by omega)
  obtain ⟨u4, h4⟩ := own_cell h (j := k * 5 + 4) (by omega)
  exact ⟨u0, u1, u2, u3, u4, h0, h1, h2, h3, h4, h.frozenAt _, h.frozenAt _, h.frozenAt _, h.frozenAt _, h.frozenAt _⟩

theorem filled_cell {w : World} {base : Nat} {e : TypeId} {sz n cap g : Nat} {xs : List Value} {f : Nat → List Value} (h : w.ownsRow base e sz (.slice (some ⟨g, 0, none⟩) n cap) n xs) (hf : Filled xs sz n f) {i c : Nat} (hi : i < n) (hc : c < sz) :
    w.cell? ⟨g, i * sz + c, none⟩ = (f i)[c]? := by
  have : i * sz + c < n * sz := Nat.lt_of_lt_of_le (by omega : i * sz + c < i * sz + sz) (by rw [← Nat.succ_mul]; exact Nat.mul_le_mul_right _ hi)
  rw [h.cellAt _ this]
  exact hf i hi c hc

theorem own_lt {w : World} {base : Nat} {e : TypeId} {sz n cap g : Nat} {xs : List Value} (h : w.ownsRow base e sz (.slice (some ⟨g, 0, none⟩) n cap) n xs) : g < w.heap.size := (h.lt g rfl).2

theorem Try.infoNode : (Try.prog.info? 43).map (fun i => (i.zero, i.size, i.bytes)) = some (some (.agg #[.int .i64 0, .slice none 0 0, .int .i64 0, .int .i64 0, .int .i64 0]), 5, 56) := by kernel_rfl
theorem Try.infoBranch : (Try.prog.info? 38).map (fun i => (i.zero, i.size, i.bytes)) = some (some (.agg #[.bool false, .bool false, .slice none 0 0]), 3, 32) := by kernel_rfl
theorem Try.infoRange : (Try.prog.info? 57).map (fun i => (i.zero, i.size, i.bytes)) = some (some (.agg #[.int .i64 0, .int .i64 0]), 2, 16) := by kernel_rfl

set_option maxHeartbeats 400000 in
theorem toRange_ok (lo hi : Int) (w : World) :
    Calls Try.prog 45 #[.agg #[.int .i64 lo, .int .i64 hi]] w fun e w' => e = .returned (.agg #[.int .i64 lo, .int .i64 hi]) ∧ Below w.heap.size w w' := by
  go_enter Try.func45, Try.ntmps45
  go_wp2
  exact bodyPost_ret (v := .agg #[.int .i64 lo, .int .i64 hi]) (by simp [results, Try.results45, go_sem]) rfl ⟨rfl, (((Below.refl _ _).alloc (Nat.le_refl _) _).alloc (by simp) _).alloc (by simp; omega) _⟩

set_option maxRecDepth 100000 in
set_option maxHeartbeats 400000 in
theorem toRangeS_ok {lo : Nat} (v : Value) (rs : List (Int × Int)) (w : World) (hs : RangesAt lo w v rs) (hn : rs.length ≤ 1048576) :
    Calls Try.prog 39 #[v] w fun e w' => ∃ v', e = .returned v' ∧ RangesAt w.heap.size w' v' rs ∧ Below w.heap.size w w' := by
  obtain ⟨ao, cap, rfl, hm, hc⟩ := hs
  obtain ⟨i0, hi, hz0, hz1, hz2⟩ := info_parts Try.infoRange
  go_enter Try.func39, Try.ntmps39
  go_wp2_with (refine wpList_make_full _ rfl _ _ 41 rfl w.heap.size 57 i0 _ 2 Try.underlying41 hi hz0 hz1 _ _ _ _ rs.length rfl rfl rfl rfl (by rw [hz2]; omega) (by unfold maxLen; omega) (Nat.le_refl _) ?_; intro w1 hown hgrow)
  have hbw : Below w.heap.size w w1 := (Below.refl _ _).grown hgrow (Nat.le_refl _) (by intro k h; cases h)
  clear hgrow
  go_loopw [4] (fun i wr => ∃ k : Nat, k ≤ rs.length ∧ i = .int .i64 k ∧ Below w.heap.size w wr ∧ ∃ xs : List Value, wr.ownsRow w.heap.size 57 2 (.slice (some ⟨w.heap.size, 0, none⟩) rs.length rs.length) rs.length xs ∧
      Filled xs 2 k (fun j => [.int .i64 (rs.getD j (0, 0)).1, .int .i64 (rs.getD j (0, 0)).2]))
    (fun i _ => rs.length - (intOf i).toNat)
  case atStart => exact ⟨0, Nat.zero_le _, rfl, hbw, _, hown, fun j hj => absurd hj (Nat.not_lt_zero _)⟩
  case round =>
    obtain ⟨k, hk, rfl, hb, xs, hown, hfill⟩ := hrel
    by_cases hlt : k < rs.length
    · obtain ⟨b, o, lo, hi, rfl, Hn, hbl, c0, c1⟩ := hc.elem hb hlt
      go_wp2_with (go_at_call 45; refine (toRange_ok _ _ _).mono ?_; rintro e w2 ⟨rfl, hb2⟩; have hown2 := ownsRow_below hown hb2; obtain ⟨u0, u1, d0, d1, f0, f1⟩ := own_two hown2 hlt)
      go_roundw
      case rel => exact ⟨k + 1, by omega, by go_num, ((below_step hb hb.size hb2).setCell (Nat.le_refl _) _).setCell (Nat.le_refl _) _, _, ((hown2.stored _ _).1.stored _ _).1, filled_two hfill (by have := hown2.1; omega) (by rw [Hn.out])⟩
      case measure => simp [intOf]; omega
    · go_wp2
      have hkk : k = rs.length := by omega
      refine bodyPost_ret (v := .slice (some ⟨w.heap.size, 0, none⟩) rs.length rs.length) (by simp [results, Try.results39, go_sem]) rfl ⟨_, rfl, ⟨_, _, rfl, hm, fun _ => ⟨w.heap.size, 0, rfl, Nat.le_refl _, own_lt hown, fun i hi => ?_⟩⟩, hb⟩
      rw [hkk] at hfill
      have e0 := filled_cell hown hfill (c := 0) hi (by omega)
      have e1 := filled_cell hown hfill (c := 1) hi (by omega)
      simp only [Nat.add_zero, Nat.zero_add] at e0 e1 ⊢
      exact ⟨e0, e1⟩
end Go.Proofs.Ytnbklbjihndhcaa
