import Derived.Test.YtipndbhedaknnaaDoorScrM
namespace Go.Proofs.YtipndbhedaknnaaDoor
open Go.RowKit
attribute [local go_sem ↓] Go.wp_at_zero Go.wp_at_succ

/-- A slice of events, read. -/
def EvR (w : World) (v : Value) (evs : List (Int × List UInt8)) : Prop := ∃ ao cap, v = .slice ao evs.length cap ∧ ∀ i, i < evs.length → ∃ b, ao = some ⟨b, 0, none⟩ ∧ b < w.heap.size ∧
  w.cell? ⟨b, i * 2, none⟩ = some (.int .i64 (evs.getD i (0, [])).1) ∧ w.cell? ⟨b, i * 2 + 1, none⟩ = some (strV (evs.getD i (0, [])).2)
theorem evCells_get (evs : List (Int × List UInt8)) : ∀ i, i < evs.length → (evCells evs)[i * 2]? = some (.int .i64 (evs.getD i (0, [])).1) ∧ (evCells evs)[i * 2 + 1]? = some (strV (evs.getD i (0, [])).2) := by
  induction evs with
  | nil => intro i h; exact absurd h (Nat.not_lt_zero _)
  | cons a t ih =>
    intro i h
    match i with
    | 0 => exact ⟨rfl, rfl⟩
    | i + 1 =>
      have := ih i (by simpa using h)
      have e1 : (i + 1) * 2 = i * 2 + 1 + 1 := by omega
      rw [e1]
      simpa [evCells] using this
theorem EvR.of {B : Nat} {w : World} {v : Value} {evs : List (Int × List UInt8)} (h : w.ownsRow B 58 2 v evs.length (evCells evs)) : EvR w v evs := by
  have h' := h
  obtain ⟨h1, h2⟩ := h
  rcases h2 with ⟨rfl, h0⟩ | ⟨g, cap, cur, rfl, hg, hh, r⟩
  · exact ⟨none, 0, by rw [h0], fun i hi => by omega⟩
  · refine ⟨_, _, rfl, fun i hi => ⟨g, rfl, (Array.getElem?_eq_some_iff.1 hh).1, ?_, ?_⟩⟩
    · rw [h'.cellAt (i * 2) (by omega)]; exact (evCells_get evs i hi).1
    · rw [h'.cellAt (i * 2 + 1) (by omega)]; exact (evCells_get evs i hi).2
theorem EvR.below {w w' : World} {v : Value} {evs : List (Int × List UInt8)} (h : EvR w v evs) (hb : Below w.heap.size w w') : EvR w' v evs := by
  obtain ⟨ao, cap, hv, hc⟩ := h
  refine ⟨ao, cap, hv, fun i hi => ?_⟩
  obtain ⟨b, e, hl, c0, c1⟩ := hc i hi
  exact ⟨b, e, Nat.lt_of_lt_of_le hl hb.size, (hb.cell (by exact hl)).trans c0, (hb.cell (by exact hl)).trans c1⟩

set_option maxHeartbeats 400000 in
theorem eqEvent_ok (k : Int) (d : ByteArray) (w : World) :
    Calls Tryd.prog 30 #[.agg #[.int .i64 k, .string d], .agg #[.int .i64 k, .string d]] w fun e w' => e = .returned (.bool true) ∧ Below w.heap.size w w' := by
  have e1 : (k != k) = false := by simp
  go_enter Tryd.func30, Tryd.ntmps30
  go_wp2
  go_ret
  exact ⟨rfl, ((Below.refl _ _).alloc (Nat.le_refl _) _).alloc (by simp) _⟩

set_option maxRecDepth 100000 in
set_option maxHeartbeats 1000000 in
theorem eqEventS_ok (v v2 : Value) (evs : List (Int × List UInt8)) (w : World) (hs : EvR w v evs) (hs2 : EvR w v2 evs) (hn : evs.length ≤ 1048576) :
    Calls Tryd.prog 12 #[v, v2] w fun e w' => e = .returned (.bool true) ∧ Below w.heap.size w w' := by
  obtain ⟨ao, cap, rfl, hc⟩ := hs
  obtain ⟨ao2, cap2, rfl, hc2⟩ := hs2
  go_enter Tryd.func12, Tryd.ntmps12
  go_wp2
  go_loopw [5] (fun i wr => ∃ k : Nat, k ≤ evs.length ∧ i = .int .i64 k ∧ Below w.heap.size w wr)
    (fun i _ => evs.length - (intOf i).toNat)
  case atStart => exact ⟨0, Nat.zero_le _, rfl, Below.refl _ _⟩
  case round =>
    obtain ⟨k, hk, rfl, hb⟩ := hrel
    by_cases hlt : k < evs.length
    · obtain ⟨b, rfl, hbl, c0, c1⟩ := hc k hlt
      obtain ⟨b2, rfl, hbl2, d0, d1⟩ := hc2 k hlt
      clear hc hc2
      generalize (evs.getD k (0, [])).1 = kd at *
      generalize (evs.getD k (0, [])).2 = dl at *
      unfold strV at c1 d1
      obtain ⟨db, hdb⟩ : ∃ db : ByteArray, db = ⟨dl.toArray⟩ := ⟨_, rfl⟩
      rw [← hdb] at c1 d1
      clear hdb
      replace c0 := (hb.cell (by exact hbl)).trans c0
      replace c1 := (hb.cell (by exact hbl)).trans c1
      replace d0 := (hb.cell (by exact hbl2)).trans d0
      replace d1 := (hb.cell (by exact hbl2)).trans d1
      have hbr : b < wr.heap.size := Nat.lt_of_lt_of_le hbl hb.size
      have hbr2 : b2 < wr.heap.size := Nat.lt_of_lt_of_le hbl2 hb.size
      have hi0 : (0 : Int) ≤ (k : Int) := by omega
      have hi1 : (k : Int) < (evs.length : Int) := by omega
      go_wp2
      go_region_held3 (fun w' => w'.cell? ⟨b, k * 2, none⟩ = some (.int .i64 kd) ∧ w'.cell? ⟨b, k * 2 + 1, none⟩ = some (.string db) ∧ w'.cell? ⟨b2, k * 2, none⟩ = some (.int .i64 kd) ∧ w'.cell? ⟨b2, k * 2 + 1, none⟩ = some (.string db)) ((first | go_keep | exact ⟨(hb2.cell (by exact hbr)).trans c0, (hb2.cell (by exact hbr)).trans c1, (hb2.cell (by exact hbr2)).trans d0, (hb2.cell (by exact hbr2)).trans d1⟩)) ((go_at_call 30; refine (eqEvent_ok _ _ _).mono ?_; rintro e w2 ⟨rfl, hb2⟩))
      go_wp2
      go_roundw
      case rel => exact ⟨k + 1, by omega, by go_num, below_step hb.drew hb.size hb2⟩
      case measure => simp [intOf]; omega
    · go_wp2
      go_ret
      exact ⟨rfl, hb⟩

/- MARKS IN EVENTS. -/
def mkEvs (k n : Nat) : List (Int × List UInt8) := (List.range n).map fun i : Nat => (((k + 2 * i : Nat) : Int), markF (k + 2 * i + 1))
theorem mkEvs_len (k n : Nat) : (mkEvs k n).length = n := by simp [mkEvs]
theorem mkEvs_succ (k n : Nat) : mkEvs k (n + 1) = mkEvs k n ++ [(((k + 2 * n : Nat) : Int), markF (k + 2 * n + 1))] := by simp [mkEvs, List.range_succ]
theorem mkEvs_get (k n j : Nat) (h : j < n) : (mkEvs k n).getD j (0, []) = (((k + 2 * j : Nat) : Int), markF (k + 2 * j + 1)) := by
  unfold mkEvs; rw [range_map_get _ _ _ _ h]
def mixEv (k : Nat) (evs : List (Int × List UInt8)) (j : Nat) : List Value := evCells (mkEvs k j) ++ (evCells evs).drop (j * 2)
theorem mixEv_zero (k : Nat) (evs : List (Int × List UInt8)) : mixEv k evs 0 = evCells evs := by simp [mixEv, mkEvs, evCells]
theorem mixEv_set (k : Nat) (evs : List (Int × List UInt8)) (j : Nat) (h : j < evs.length) : ((mixEv k evs j).set (j * 2) (.int .i64 ((k + 2 * j : Nat) : Int))).set (j * 2 + 1) (strV (markF (k + 2 * j + 1))) = mixEv k evs (j + 1) := by
  have hl : (evCells evs).length = evs.length * 2 := evCells_len evs
  have hm : (evCells (mkEvs k j)).length = j * 2 := by rw [evCells_len, mkEvs_len]
  unfold mixEv
  rw [List.drop_eq_getElem_cons (i := j * 2) (by omega), List.drop_eq_getElem_cons (i := j * 2 + 1) (by omega), mkEvs_succ, evCells_app, List.set_append_right _ _ (by omega), hm, List.set_append_right _ _ (by omega), hm]
  have e1 : j * 2 - j * 2 = 0 := by omega
  have e2 : j * 2 + 1 - j * 2 = 1 := by omega
  have e3 : j * 2 + 1 + 1 = (j + 1) * 2 := by omega
  rw [e1, e2, e3]
  simp [evCells]
theorem mixEv_full (k : Nat) (evs : List (Int × List UInt8)) : mixEv k evs evs.length = evCells (mkEvs k evs.length) := by
  unfold mixEv
  rw [List.drop_eq_nil_of_le (by rw [evCells_len]; omega), List.append_nil]

set_option maxRecDepth 100000 in
set_option maxHeartbeats 1000000 in
theorem markEventS_ok {B : Nat} (v : Value) (evs : List (Int × List UInt8)) (k : Nat) (w : World) (h : w.ownsRow B 58 2 v evs.length (evCells evs)) (h1 : k ≤ 1000000) (hl : evs.length ≤ 1048576) :
    Calls Tryd.prog 13 #[v, .int .i64 k] w fun e w' => e = .returned (.int .i64 ((k + 2 * evs.length : Nat) : Int)) ∧ w'.ownsRow B 58 2 v evs.length (evCells (mkEvs k evs.length)) ∧ Below B w w' := by
  have h' := h
  rcases h.2 with ⟨rfl, hn0⟩ | ⟨g, cap, cur, rfl, hg, r⟩
  · have : evs = [] := List.eq_nil_of_length_eq_zero hn0
    subst this
    go_enter Tryd.func13, Tryd.ntmps13
    go_wp2
    go_loop [1, 5] (fun kk i => kk = .int .i64 k ∧ i = .int .i64 0) (fun _ _ => 0)
    case atStart => exact ⟨rfl, rfl⟩
    case round =>
      obtain ⟨rfl, rfl⟩ := hrel
      go_wp2
      go_ret
      exact ⟨ret_int (by simp), h', Below.refl _ _⟩
  · clear r h
    rw [← mixEv_zero k evs] at h'
    go_enter Tryd.func13, Tryd.ntmps13
    go_wp2
    go_loopw [1, 5] (fun kk i wr => ∃ j : Nat, j ≤ evs.length ∧ i = .int .i64 j ∧ kk = .int .i64 ((k + 2 * j : Nat) : Int) ∧ wr.ownsRow B 58 2 (.slice (some ⟨g, 0, none⟩) evs.length cap) evs.length (mixEv k evs j) ∧ Below B w wr)
      (fun _ i _ => evs.length - (intOf i).toNat)
    case atStart => exact ⟨0, Nat.zero_le _, rfl, by simp, h', Below.refl _ _⟩
    case round =>
      obtain ⟨j, hj, rfl, rfl, hown, hb⟩ := hrel
      by_cases hlt : j < evs.length
      · obtain ⟨u0, u1, d0, d1, f0, f1⟩ := own_two hown hlt
        have HX : Hid _ := mixEv_set k evs j hlt
        have hgl := (own_formN hown).2.1
        have e0 : ((k + 2 * j : Nat) : Int) = (k : Int) + 2 * (j : Int) := by omega
        rw [e0]
        have hi0 : (0 : Int) ≤ (j : Int) := by omega
        have hi1 : (j : Int) < (evs.length : Int) := by omega
        have hown1 := (hown.stored (j * 2) (.int .i64 ((k : Int) + 2 * (j : Int)))).1
        go_wp2_with (go_at_call 31; refine (markText_ok (k + 2 * j + 1) _ _ (by omega) (by omega)).mono ?_; rintro e w2 ⟨rfl, hb2⟩; have hown2 := ownsRow_below hown1 hb2; obtain ⟨v0, v1, a0, a1, b0, b1⟩ := own_two hown2 hlt; unfold strV)
        go_roundw
        case rel => exact ⟨j + 1, by omega, by go_num, by go_num, by
          have := (hown2.stored (j * 2 + 1) (strV (markF (k + 2 * j + 1)))).1
          rw [← e0, HX.out] at this
          exact this, (below_step (hb.setCell (by exact hg) _) (by have := hb.size; simp [World.setCell]; omega) hb2).setCell (by exact hg) _⟩
        case measure => simp [intOf]; omega
      · have hjj : j = evs.length := by omega
        subst hjj
        rw [mixEv_full] at hown
        have e0 : ((k + 2 * evs.length : Nat) : Int) = (k : Int) + 2 * (evs.length : Int) := by omega
        go_wp2
        go_ret
        exact ⟨rfl, hown, hb⟩

set_option maxRecDepth 100000 in
set_option maxHeartbeats 1000000 in
theorem heldEventS_ok (v : Value) (n k : Nat) (w : World) (hs : EvR w v (mkEvs k n)) (h1 : k ≤ 1000000) (hl : n ≤ 1048576) :
    Calls Tryd.prog 14 #[v, .int .i64 k] w fun e w' => e = .returned (.int .i64 ((k + 2 * n : Nat) : Int)) ∧ Below w.heap.size w w' := by
  obtain ⟨ao, cap, rfl, hc⟩ := hs
  rw [mkEvs_len] at *
  go_enter Tryd.func14, Tryd.ntmps14
  go_wp2
  go_loopw [1, 5] (fun kk i wr => ∃ j : Nat, j ≤ n ∧ i = .int .i64 j ∧ kk = .int .i64 ((k + 2 * j : Nat) : Int) ∧ Below w.heap.size w wr) (fun _ i _ => n - (intOf i).toNat)
  case atStart => exact ⟨0, Nat.zero_le _, rfl, by simp, Below.refl _ _⟩
  case round =>
    obtain ⟨j, hj, rfl, rfl, hb⟩ := hrel
    have e0 : ((k + 2 * j : Nat) : Int) = (k : Int) + 2 * (j : Int) := by omega
    by_cases hlt : j < n
    · obtain ⟨b, rfl, hbl, c0, c1⟩ := hc j hlt
      clear hc
      rw [mkEvs_get k n j hlt] at c0 c1
      replace c0 := (hb.cell (by exact hbl)).trans c0
      replace c1 := (hb.cell (by exact hbl)).trans c1
      have hbr : b < wr.heap.size := Nat.lt_of_lt_of_le hbl hb.size
      simp only at c0 c1
      rw [e0] at c0 ⊢
      have hi0 : (0 : Int) ≤ (j : Int) := by omega
      have hi1 : (j : Int) < (n : Int) := by omega
      have hne : ((k : Int) + 2 * (j : Int) != (k : Int) + 2 * (j : Int)) = false := by simp
      have hmt := fun (W : World) (ki : Int) (hki : ki = (k + 2 * j + 1 : Nat)) => markText_ok (k + 2 * j + 1) ki W hki (by omega)
      generalize markF (k + 2 * j + 1) = ml at *
      unfold strV at c1 hmt
      obtain ⟨mb, hmb⟩ : ∃ mb : ByteArray, mb = ⟨ml.toArray⟩ := ⟨_, rfl⟩
      rw [← hmb] at c1 hmt
      clear hmb
      go_wp2
      go_region_held3 (fun w' => w'.cell? ⟨b, j * 2 + 1, none⟩ = some (.string mb)) ((first | go_keep | exact (hb2.cell (by exact hbr)).trans c1)) ((go_at_call 31; refine (hmt _ _ (by omega)).mono ?_; rintro e w2 ⟨rfl, hb2⟩))
      go_wp2
      go_roundw
      case rel => exact ⟨j + 1, by omega, by go_num, by go_num, below_step hb.drew hb.size hb2⟩
      case measure => simp [intOf]; omega
    · have hjj : j = n := by omega
      subst hjj
      go_wp2
      go_ret
      exact ⟨rfl, hb⟩
end Go.Proofs.YtipndbhedaknnaaDoor
