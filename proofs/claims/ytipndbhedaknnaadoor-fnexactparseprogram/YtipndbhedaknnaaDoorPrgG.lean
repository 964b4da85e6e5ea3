import Derived.Test.YtipndbhedaknnaaDoorPrgF
namespace Go.Proofs.YtipndbhedaknnaaDoor
open Go.RowKit
attribute [local go_sem ↓] Go.wp_at_zero Go.wp_at_succ

/- MARKS IN CASES. -/
def mkC (k : Nat) : CaseD := ⟨markF k, ⟨((k + 1 : Nat) : Int), ((k + 2 : Nat) : Int), markF (k + 3)⟩⟩
def mkCs (k n : Nat) : List CaseD := (List.range n).map fun i : Nat => mkC (k + 4 * i)
theorem mkCs_len (k n : Nat) : (mkCs k n).length = n := by simp [mkCs]
theorem mkCs_succ (k n : Nat) : mkCs k (n + 1) = mkCs k n ++ [mkC (k + 4 * n)] := by simp [mkCs, List.range_succ]
theorem mkCs_get (k n j : Nat) (h : j < (mkCs k n).length) : (mkCs k n)[j] = mkC (k + 4 * j) := by simp [mkCs]
def mixCs (k : Nat) (cs : List CaseD) (j : Nat) : List Value := csCells (mkCs k j) ++ (csCells cs).drop (j * 4)
theorem mixCs_zero (k : Nat) (cs : List CaseD) : mixCs k cs 0 = csCells cs := by simp [mixCs, mkCs, csCells]
theorem mixCs_full (k : Nat) (cs : List CaseD) : mixCs k cs cs.length = csCells (mkCs k cs.length) := by
  unfold mixCs
  rw [List.drop_eq_nil_of_le (by rw [csCells_len]; omega), List.append_nil]
theorem mixCs_set (k : Nat) (cs : List CaseD) (j : Nat) (h : j < cs.length) : ((((mixCs k cs j).set (j * 4) (strV (markF (k + 4 * j)))).set (j * 4 + 1) (.int .i64 ((k + 4 * j + 1 : Nat) : Int))).set (j * 4 + 2) (.int .i64 ((k + 4 * j + 2 : Nat) : Int))).set (j * 4 + 3) (strV (markF (k + 4 * j + 3))) = mixCs k cs (j + 1) := by
  have hl : (csCells cs).length = cs.length * 4 := csCells_len cs
  have hm : (csCells (mkCs k j)).length = j * 4 := by rw [csCells_len, mkCs_len]
  unfold mixCs
  rw [List.drop_eq_getElem_cons (i := j * 4) (by omega), List.drop_eq_getElem_cons (i := j * 4 + 1) (by omega), List.drop_eq_getElem_cons (i := j * 4 + 1 + 1) (by omega), List.drop_eq_getElem_cons (i := j * 4 + 1 + 1 + 1) (by omega), mkCs_succ, csCells_app,
    List.set_append_right _ _ (by omega), hm, List.set_append_right _ _ (by omega), hm, List.set_append_right _ _ (by omega), hm, List.set_append_right _ _ (by omega), hm]
  have e0 : j * 4 - j * 4 = 0 := by omega
  have e1 : j * 4 + 1 - j * 4 = 1 := by omega
  have e2 : j * 4 + 2 - j * 4 = 2 := by omega
  have e3 : j * 4 + 3 - j * 4 = 3 := by omega
  have e4 : j * 4 + 1 + 1 + 1 + 1 = (j + 1) * 4 := by omega
  rw [e0, e1, e2, e3, e4]
  simp [csCells, mkC]
theorem own_four {w : World} {base : Nat} {e : TypeId} {n cap g : Nat} {xs : List Value} (h : w.ownsRow base e 4 (.slice (some ⟨g, 0, none⟩) n cap) n xs) {k : Nat} (hk : k < n) :
    ∃ u0 u1 u2 u3, (w.cell? ⟨g, k * 4, none⟩ = some u0 ∧ w.cell? ⟨g, k * 4 + 1, none⟩ = some u1 ∧ w.cell? ⟨g, k * 4 + 2, none⟩ = some u2 ∧ w.cell? ⟨g, k * 4 + 3, none⟩ = some u3) ∧ w.frozen? ⟨g, k * 4, none⟩ = false ∧ w.frozen? ⟨g, k * 4 + 1, none⟩ = false ∧ w.frozen? ⟨g, k * 4 + 2, none⟩ = false ∧ w.frozen? ⟨g, k * 4 + 3, none⟩ = false := by
  obtain ⟨u0, h0⟩ := own_cell h (j := k * 4) (by omega)
  obtain ⟨u1, h1⟩ := own_cell h (j := k * 4 + 1) (by omega)
  obtain ⟨u2, h2⟩ := own_cell h (j := k * 4 + 2) (by omega)
  obtain ⟨u3, h3⟩ := own_cell h (j := k * 4 + 3) (by omega)
  exact ⟨u0, u1, u2, u3, ⟨h0, h1, h2, h3⟩, h.frozenAt _, h.frozenAt _, h.frozenAt _, h.frozenAt _⟩
theorem grown_below {A W W' : World} {row : Option Nat} (h : A.grownBy W row) (hb : Below W.heap.size W W') : A.grownBy W' row :=
  h.trans ⟨hb.os, hb.tape, hb.output, hb.size, fun k hk _ => hb.block k hk⟩
theorem grownSet {A W : World} {g : Nat} (h : A.grownBy W (some g)) (i : Nat) (v : Value) : A.grownBy (W.setCell ⟨g, i, none⟩ v) (some g) :=
  h.trans ⟨rfl, rfl, rfl, by simp, fun k _ hk => Below.heap_setCell W _ _ k (fun e => hk (by rw [show k = g from e]))⟩

set_option maxRecDepth 100000 in
set_option maxHeartbeats 2000000 in
theorem markCaseS_ok {B : Nat} (v : Value) (cs : List CaseD) (k : Nat) (w : World) (h : w.ownsRow B 47 4 v cs.length (csCells cs)) (h1 : k ≤ 10000000) (hl : cs.length ≤ 1000000) :
    Calls Tryd.prog 43 #[v, .int .i64 k] w fun e w' => e = .returned (.int .i64 ((k + 4 * cs.length : Nat) : Int)) ∧ w'.ownsRow B 47 4 v cs.length (csCells (mkCs k cs.length)) ∧ w.grownBy w' v.ownBlock := by
  have h' := h
  rcases h.2 with ⟨rfl, hn0⟩ | ⟨g, cap, cur, rfl, hg, r⟩
  · have : cs = [] := List.eq_nil_of_length_eq_zero hn0
    subst this
    go_enter Tryd.func43, Tryd.ntmps43
    go_wp2
    go_loop [1, 5] (fun kk i => kk = .int .i64 k ∧ i = .int .i64 0) (fun _ _ => 0)
    case atStart => exact ⟨rfl, rfl⟩
    case round =>
      obtain ⟨rfl, rfl⟩ := hrel
      go_wp2
      go_ret
      exact ⟨ret_int (by simp), h', World.grownBy.refl _ _⟩
  · clear r h
    rw [← mixCs_zero k cs] at h'
    go_enter Tryd.func43, Tryd.ntmps43
    go_wp2
    go_loopw [1, 5] (fun kk i wr => ∃ j : Nat, j ≤ cs.length ∧ i = .int .i64 j ∧ kk = .int .i64 ((k + 4 * j : Nat) : Int) ∧ wr.ownsRow B 47 4 (.slice (some ⟨g, 0, none⟩) cs.length cap) cs.length (mixCs k cs j) ∧ w.grownBy wr (some g))
      (fun _ i _ => cs.length - (intOf i).toNat)
    case atStart => exact ⟨0, Nat.zero_le _, rfl, by simp, h', World.grownBy.refl _ _⟩
    case round =>
      obtain ⟨j, hj, rfl, rfl, hown, hb⟩ := hrel
      by_cases hlt : j < cs.length
      · have HX : Hid _ := mixCs_set k cs j hlt
        have e0 : ((k + 4 * j : Nat) : Int) = (k : Int) + 4 * (j : Int) := by omega
        rw [e0]
        have hi0 : (0 : Int) ≤ (j : Int) := by omega
        have hi1 : (j : Int) < (cs.length : Int) := by omega
        have hm0 := fun (W : World) (ki : Int) (hki : ki = (k + 4 * j : Nat)) => markText_ok (k + 4 * j) ki W hki (by omega)
        have hm3 := fun (W : World) (ki : Int) (hki : ki = (k + 4 * j + 3 : Nat)) => markText_ok (k + 4 * j + 3) ki W hki (by omega)
        obtain ⟨m0, hm0e⟩ : ∃ m0 : ByteArray, m0 = ⟨(markF (k + 4 * j)).toArray⟩ := ⟨_, rfl⟩
        obtain ⟨m3, hm3e⟩ : ∃ m3 : ByteArray, m3 = ⟨(markF (k + 4 * j + 3)).toArray⟩ := ⟨_, rfl⟩
        unfold strV at hm0 hm3
        rw [← hm0e] at hm0
        rw [← hm3e] at hm3
        have HX' : Hid (((((mixCs k cs j).set (j * 4) (.string m0)).set (j * 4 + 1) (.int .i64 ((k : Int) + 4 * (j : Int) + 1))).set (j * 4 + 2) (.int .i64 ((k : Int) + 4 * (j : Int) + 2))).set (j * 4 + 3) (.string m3) = mixCs k cs (j + 1)) := by
          show _ = _
          have := HX.out
          unfold strV at this
          rw [← hm0e, ← hm3e, show ((k + 4 * j + 1 : Nat) : Int) = (k : Int) + 4 * (j : Int) + 1 by omega, show ((k + 4 * j + 2 : Nat) : Int) = (k : Int) + 4 * (j : Int) + 2 by omega] at this
          exact this
        clear HX hm0e hm3e
        go_wp2_with fail
        refine (hm0 _ _ (by omega)).mono ?_
        rintro e w2 ⟨rfl, hb2⟩
        have own2 := ownsRow_below hown hb2
        have gr2 := grown_below hb hb2
        obtain ⟨u0, u1, u2, u3, ⟨c0, c1, c2, c3⟩, f0, f1, f2, f3⟩ := own_four own2 hlt
        have own3 := (((own2.stored (j * 4) (.string m0)).1.stored (j * 4 + 1) (.int .i64 ((k : Int) + 4 * (j : Int) + 1))).1.stored (j * 4 + 2) (.int .i64 ((k : Int) + 4 * (j : Int) + 2))).1
        have gr3 := grownSet (grownSet (grownSet gr2 (j * 4) (.string m0)) (j * 4 + 1) (.int .i64 ((k : Int) + 4 * (j : Int) + 1))) (j * 4 + 2) (.int .i64 ((k : Int) + 4 * (j : Int) + 2))
        clear hown hb hb2 own2 gr2 hm0
        go_wp2_with fail
        refine (hm3 _ _ (by omega)).mono ?_
        rintro e w4 ⟨rfl, hb4⟩
        have own4 := ownsRow_below own3 hb4
        have gr4 := grown_below gr3 hb4
        obtain ⟨v0, v1, v2, v3, ⟨d0, d1, d2, d3⟩, g0, g1, g2, g3⟩ := own_four own4 hlt
        have own5 := (own4.stored (j * 4 + 3) (.string m3)).1
        have gr5 := grownSet gr4 (j * 4 + 3) (.string m3)
        rw [HX'.out] at own5
        clear own3 gr3 own4 gr4 hb4 hm3
        go_wp2
        go_roundw
        case rel => exact ⟨j + 1, by omega, by go_num, by go_num, own5, gr5⟩
        case measure => simp [intOf]; omega
      · have hjj : j = cs.length := by omega
        subst hjj
        rw [mixCs_full] at hown
        have e0 : ((k + 4 * cs.length : Nat) : Int) = (k : Int) + 4 * (cs.length : Int) := by omega
        go_wp2
        go_ret
        exact ⟨rfl, hown, hb⟩

set_option maxRecDepth 100000 in
set_option maxHeartbeats 2000000 in
theorem heldCaseS_ok (v : Value) (n k : Nat) (w : World) (hs : CsR w v (mkCs k n)) (h1 : k ≤ 10000000) (hl : n ≤ 1000000) :
    Calls Tryd.prog 44 #[v, .int .i64 k] w fun e w' => e = .returned (.int .i64 ((k + 4 * n : Nat) : Int)) ∧ Below w.heap.size w w' := by
  obtain ⟨ao, cap, rfl, hc⟩ := hs
  rw [mkCs_len] at *
  go_enter Tryd.func44, Tryd.ntmps44
  go_wp2
  go_loopw [1, 5] (fun kk i wr => ∃ j : Nat, j ≤ n ∧ i = .int .i64 j ∧ kk = .int .i64 ((k + 4 * j : Nat) : Int) ∧ Below w.heap.size w wr) (fun _ i _ => n - (intOf i).toNat)
  case atStart => exact ⟨0, Nat.zero_le _, rfl, by simp, Below.refl _ _⟩
  case round =>
    obtain ⟨j, hj, rfl, rfl, hb⟩ := hrel
    have e0 : ((k + 4 * j : Nat) : Int) = (k : Int) + 4 * (j : Int) := by omega
    by_cases hlt : j < n
    · obtain ⟨b, rfl, hbl, c0, c1, c2, c3⟩ := hc j (by rw [mkCs_len]; exact hlt)
      clear hc
      rw [mkCs_get] at c0 c1 c2 c3
      unfold mkC at c0 c1 c2 c3
      unfold strV at c0 c3
      dsimp only at c0 c1 c2 c3
      rw [show ((k + 4 * j + 1 : Nat) : Int) = (k : Int) + 4 * (j : Int) + 1 by omega] at c1
      rw [show ((k + 4 * j + 2 : Nat) : Int) = (k : Int) + 4 * (j : Int) + 2 by omega] at c2
      replace c0 := (hb.cell (by exact hbl)).trans c0
      replace c1 := (hb.cell (by exact hbl)).trans c1
      replace c2 := (hb.cell (by exact hbl)).trans c2
      replace c3 := (hb.cell (by exact hbl)).trans c3
      have hbr : b < wr.heap.size := Nat.lt_of_lt_of_le hbl hb.size
      rw [e0]
      have hi0 : (0 : Int) ≤ (j : Int) := by omega
      have hi1 : (j : Int) < (n : Int) := by omega
      have hne1 : ((k : Int) + 4 * (j : Int) + 1 != (k : Int) + 4 * (j : Int) + 1) = false := by simp
      have hne2 : ((k : Int) + 4 * (j : Int) + 2 != (k : Int) + 4 * (j : Int) + 2) = false := by simp
      have hm0 := fun (W : World) (ki : Int) (hki : ki = (k + 4 * j : Nat)) => markText_ok (k + 4 * j) ki W hki (by omega)
      have hm3 := fun (W : World) (ki : Int) (hki : ki = (k + 4 * j + 3 : Nat)) => markText_ok (k + 4 * j + 3) ki W hki (by omega)
      obtain ⟨m0, hm0e⟩ : ∃ m0 : ByteArray, m0 = ⟨(markF (k + 4 * j)).toArray⟩ := ⟨_, rfl⟩
      obtain ⟨m3, hm3e⟩ : ∃ m3 : ByteArray, m3 = ⟨(markF (k + 4 * j + 3)).toArray⟩ := ⟨_, rfl⟩
      unfold strV at hm0 hm3
      rw [← hm0e] at hm0 c0
      rw [← hm3e] at hm3 c3
      clear hm0e hm3e
      go_wp2
      go_region_held3 (fun w' => w'.cell? ⟨b, j * 4, none⟩ = some (.string m0)) ((first | go_keep | exact (hb2.cell (by exact hbr)).trans c0)) ((go_at_call 31; refine (hm0 _ _ (by omega)).mono ?_; rintro e w2 ⟨rfl, hb2⟩))
      have hbd : Below wr.heap.size wr w2 := below_step (Below.refl _ _).drew (Nat.le_refl _) hb2
      have p1 := (hbd.cell (p := ⟨b, j * 4 + 1, none⟩) (by exact hbr)).trans c1
      have p2 := (hbd.cell (p := ⟨b, j * 4 + 2, none⟩) (by exact hbr)).trans c2
      have p3 := (hbd.cell (p := ⟨b, j * 4 + 3, none⟩) (by exact hbr)).trans c3
      have hbr2 : b < w2.heap.size := Nat.lt_of_lt_of_le hbr hbd.size
      have bl2 := below_step hb hb.size hbd
      clear c0 c1 c2 c3 hm0
      go_wp2
      go_region_held3 (fun w' => w'.cell? ⟨b, j * 4 + 3, none⟩ = some (.string m3)) ((first | go_keep | exact (hb3.cell (by exact hbr2)).trans p3)) ((go_at_call 31; refine (hm3 _ _ (by omega)).mono ?_; rintro e w3 ⟨rfl, hb3⟩))
      go_wp2
      go_roundw
      case rel => exact ⟨j + 1, by omega, by go_num, by go_num, below_step bl2.drew bl2.size hb3⟩
      case measure => simp [intOf]; omega
    · have hjj : j = n := by omega
      subst hjj
      go_wp2
      go_ret
      exact ⟨rfl, hb⟩
end Go.Proofs.YtipndbhedaknnaaDoor
