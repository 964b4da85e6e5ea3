import Derived.Test.YtgbdlgogccgciaaGreatDoorPgH
import Derived.Deep.Cut
import Derived.Deep.CutRange
namespace Go.Proofs.YtgbdlgogccgciaaGreatDoor
open Go.RowKit
attribute [local go_sem ↓] Go.wp_at_zero Go.wp_at_succ

/- THE CODE's TOKENS READ AGAIN; THEIR ORDER. -/
def tk5i (x : Tok) (s : Value) : List Value := [.int .i64 (x.kind : Int), .int .i64 (x.pos : Int), s, .int .i64 x.mn, .int .i64 x.mx]
structure TiV (W : World) (G : Nat) (l : List Tok) (sv : Nat → Value) : Prop where
  lt : G < W.heap.size
  cel : ∀ k, k < l.length → ∀ j, j < 5 → W.cell? ⟨G, k * 5 + j, none⟩ = (tk5i (l.getD k tokZ) (sv k))[j]?
  kin : ∀ k, k < l.length → kAt l k < 7
  one : ∀ k, k < l.length → ∃ r n c, sv k = .slice r n c
theorem TiV.kindC {W : World} {G : Nat} {l : List Tok} {sv : Nat → Value} (h : TiV W G l sv) {k : Nat} (hk : k < l.length) : W.cell? ⟨G, k * 5, none⟩ = some (.int .i64 (kAt l k : Int)) := h.cel k hk 0 (by omega)
theorem TiV.posC {W : World} {G : Nat} {l : List Tok} {sv : Nat → Value} (h : TiV W G l sv) {k : Nat} (hk : k < l.length) : W.cell? ⟨G, k * 5 + 1, none⟩ = some (.int .i64 ((l.getD k tokZ).pos : Int)) := h.cel k hk 1 (by omega)
theorem TiV.setC {W : World} {G : Nat} {l : List Tok} {sv : Nat → Value} (h : TiV W G l sv) {k : Nat} (hk : k < l.length) : W.cell? ⟨G, k * 5 + 2, none⟩ = some (sv k) := h.cel k hk 2 (by omega)
theorem TiV.minC {W : World} {G : Nat} {l : List Tok} {sv : Nat → Value} (h : TiV W G l sv) {k : Nat} (hk : k < l.length) : W.cell? ⟨G, k * 5 + 3, none⟩ = some (.int .i64 (l.getD k tokZ).mn) := h.cel k hk 3 (by omega)
theorem TiV.maxC {W : World} {G : Nat} {l : List Tok} {sv : Nat → Value} (h : TiV W G l sv) {k : Nat} (hk : k < l.length) : W.cell? ⟨G, k * 5 + 4, none⟩ = some (.int .i64 (l.getD k tokZ).mx) := h.cel k hk 4 (by omega)
theorem TiV.keep {W W' : World} {G : Nat} {l : List Tok} {sv : Nat → Value} (h : TiV W G l sv) (hs : W.heap.size ≤ W'.heap.size) (hb : W'.heap[G]? = W.heap[G]?) : TiV W' G l sv :=
  ⟨Nat.lt_of_lt_of_le h.lt hs, fun k hk j hj => by rw [World.cell?_of_block (w := W) hb]; exact h.cel k hk j hj, h.kin, h.one⟩
theorem TiV.below {W W' : World} {G : Nat} {l : List Tok} {sv : Nat → Value} (h : TiV W G l sv) (hb : Below W.heap.size W W') : TiV W' G l sv := h.keep hb.size (hb.block G h.lt)
theorem TiV.kinds {W : World} {G : Nat} {l : List Tok} {sv : Nat → Value} (h : TiV W G l sv) : Kinds l := fun k hk => h.kin k hk
set_option maxRecDepth 100000 in
set_option maxHeartbeats 1000000 in
theorem atOpening_ok {G c : Nat} {l : List Tok} {sv : Nat → Value} {k : Nat} (w : World) (h : TiV w G l sv) (hk : k ≤ l.length) (hl : l.length ≤ 2000) :
    Calls Tryz.prog 52 #[.slice (some ⟨G, 0, none⟩) l.length c, .int .i64 (k : Int)] w fun e w' => e = .returned (.bool (decide (opens (prevK l k)))) ∧ w' = w := by
  by_cases h0 : k = 0
  · subst h0
    have ho : decide (opens (prevK l 0)) = true := by simp [prevK, opens]
    rw [ho]
    go_enter Tryz.func52, Tryz.ntmps52
    go_wp2
    go_ret
    exact ⟨rfl, rfl⟩
  · have e0 : ((k : Int) == 0) = false := by simpa using h0
    have hkl : k - 1 < l.length := by omega
    have c0 := h.kindC hkl
    have hP : prevK l k = kAt l (k - 1) := by unfold prevK; rw [if_neg h0]
    have hK7 := h.kin (k - 1) hkl
    rw [hP]
    generalize kAt l (k - 1) = K at *
    have i1 : ((k : Int) - 1).toNat = k - 1 := by omega
    have i2 : (0 : Int) ≤ (k : Int) - 1 := by omega
    obtain ⟨n, hn⟩ : ∃ n, n = l.length := ⟨_, rfl⟩
    rw [← hn]
    have i3 : (k : Int) - 1 < (n : Int) := by omega
    have hk2 : k ≤ 2000 := by omega
    clear hn hk hl hkl hP
    by_cases e1 : K = 1
    · subst e1
      have ho : decide (opens 1) = true := by decide
      rw [ho]
      go_enter Tryz.func52, Tryz.ntmps52
      go_wp2
      go_ret
      exact ⟨rfl, rfl⟩
    by_cases e3 : K = 3
    · subst e3
      have ho : decide (opens 3) = true := by decide
      rw [ho]
      go_enter Tryz.func52, Tryz.ntmps52
      go_wp2
      go_ret
      exact ⟨rfl, rfl⟩
    by_cases e5 : K = 5
    · subst e5
      have ho : decide (opens 5) = true := by decide
      rw [ho]
      go_enter Tryz.func52, Tryz.ntmps52
      go_wp2
      go_ret
      exact ⟨rfl, rfl⟩
    have ho : decide (opens K) = false := by simp [opens, e1, e3, e5]; omega
    rw [ho]
    have b1 : ((K : Int) == 1) = false := by simp; omega
    have b3 : ((K : Int) == 3) = false := by simp; omega
    have b5 : ((K : Int) == 5) = false := by simp; omega
    clear e1 e3 e5
    go_enter Tryz.func52, Tryz.ntmps52
    go_wp2
    go_ret
    exact ⟨rfl, rfl⟩

set_option maxRecDepth 100000 in
set_option maxHeartbeats 4000000 in
theorem orderFault_ok {G c : Nat} {l : List Tok} {sv : Nat → Value} {k d g : Nat} (w : World) (h : TiV w G l sv) (hk : k < l.length) (hl : l.length ≤ 2000) (hd : depI l k = (d : Int)) (hg : g = numN l (k + 1)) :
    Calls Tryz.prog 51 #[.slice (some ⟨G, 0, none⟩) l.length c, .int .i64 (k : Int), .int .i64 (d : Int), .int .i64 (g : Int)] w fun e w' => e = .returned (.int .i64 (faultF l k)) ∧ w' = w := by
  have hP8 := prevK_lt h.kinds (k := k) (by omega)
  have hX8 := nextK_lt h.kinds k
  have hK7 := h.kin k hk
  have hP0 : k = 0 ↔ prevK l k = 7 := by
    unfold prevK
    by_cases h0 : k = 0
    · simp [h0]
    · rw [if_neg h0]; have := h.kin (k - 1) (by omega); omega
  have hX0 : ¬k + 1 < l.length ↔ nextK l k = 7 := by
    unfold nextK
    by_cases h0 : k + 1 < l.length
    · rw [if_pos h0]; have := h.kin (k + 1) h0; omega
    · simp [h0]
  have c1 := atOpening_ok (c := c) w h (k := k) (by omega) hl
  have k0 := h.kindC hk
  have kp : 0 < k → w.cell? ⟨G, (k - 1) * 5, none⟩ = some (.int .i64 (prevK l k : Int)) := fun h0 => by
    have := h.kindC (k := k - 1) (by omega)
    unfold prevK
    rw [if_neg (by omega)]
    exact this
  have kx : k + 1 < l.length → w.cell? ⟨G, (k + 1) * 5, none⟩ = some (.int .i64 (nextK l k : Int)) := fun h0 => by
    have := h.kindC (k := k + 1) h0
    unfold nextK
    rw [if_pos h0]
    exact this
  rw [faultL_eq, hd, ← hg]
  generalize prevK l k = P at *
  generalize nextK l k = X at *
  generalize kAt l k = K at *
  obtain ⟨n, hn⟩ : ∃ n, n = l.length := ⟨_, rfl⟩
  rw [← hn] at c1 hX0 kx ⊢
  have h1 : (k : Int) < (n : Int) := by omega
  have hk2 : k ≤ 2000 := by omega
  have hn2 : n ≤ 2000 := by omega
  have i1 : ((k : Int) - 1).toNat = k - 1 := by omega
  have i4 : ((k : Int) + 1).toNat = k + 1 := by omega
  have Hk := hid hk
  have P0 := hid hP0
  have X0 := hid hX0
  have KP := hid kp
  have KX := hid kx
  clear hn hk hl hP0 hX0 h hd hg kp kx
  have hO : decide (opens P) = true ∨ decide (opens P) = false := by cases decide (opens P) <;> simp
  go_enter Tryz.func51, Tryz.ntmps51
  go_wp2_with fail
  refine c1.mono ?_
  rintro e w' ⟨rfl, hw⟩
  rw [hw]
  clear hw w' c1
  by_cases kk : K = 0
  · subst kk
    go_wp2
    go_ret
    exact ⟨ret_int (by unfold faultL; rw [if_neg (by decide), if_neg (by decide), if_neg (by decide), if_neg (by decide), if_neg (by decide), if_neg (by decide)]), rfl⟩
  by_cases kk : K = 1
  · subst kk
    by_cases e : 500 < g
    · have e1 : (500 : Int) < (g : Int) := by omega
      go_wp2
      go_ret
      exact ⟨ret_int (by unfold faultL; rw [if_pos rfl, if_pos e]), rfl⟩
    · have e1 : ¬(500 : Int) < (g : Int) := by omega
      go_wp2
      go_ret
      exact ⟨ret_int (by unfold faultL; rw [if_pos rfl, if_neg e]), rfl⟩
  by_cases kk : K = 2
  · subst kk
    by_cases e : (d : Int) = 0
    · have e1 : ((d : Int) == 0) = true := by simpa using e
      go_wp2
      go_ret
      exact ⟨ret_int (by unfold faultL; rw [if_neg (by decide), if_pos rfl, if_pos e]), rfl⟩
    · have e1 : ((d : Int) == 0) = false := by simpa using e
      rcases hO with hO | hO
      · rw [hO]
        go_wp2
        go_ret
        exact ⟨ret_int (by unfold faultL; rw [if_neg (by decide), if_pos rfl, if_neg e, if_pos (of_decide_eq_true hO)]), rfl⟩
      · rw [hO]
        go_wp2
        go_ret
        exact ⟨ret_int (by unfold faultL; rw [if_neg (by decide), if_pos rfl, if_neg e, if_neg (of_decide_eq_false hO)]), rfl⟩
  by_cases kk : K = 3
  · subst kk
    rcases hO with hO | hO
    · rw [hO]
      go_wp2
      go_ret
      exact ⟨ret_int (by unfold faultL; rw [if_neg (by decide), if_neg (by decide), if_pos rfl, if_pos (of_decide_eq_true hO)]), rfl⟩
    · rw [hO]
      go_wp2
      go_ret
      exact ⟨ret_int (by unfold faultL; rw [if_neg (by decide), if_neg (by decide), if_pos rfl, if_neg (of_decide_eq_false hO)]), rfl⟩
  by_cases kk : K = 4
  · subst kk
    by_cases e7 : k = 0
    · have e1 : ((k : Int) == 0) = true := by simpa using e7
      have E8 := hid (P0.out.1 e7)
      clear e7
      go_wp2
      go_ret
      exact ⟨ret_int (by unfold faultL; rw [if_neg (by decide), if_neg (by decide), if_neg (by decide), if_pos rfl, if_pos (by have := E8.out; omega)]), rfl⟩
    have e1 : ((k : Int) == 0) = false := by simpa using e7
    have cp := KP.out (by omega)
    have i2 : (0 : Int) ≤ (k : Int) - 1 := by omega
    have i3 : (k : Int) - 1 < (n : Int) := by omega
    by_cases e : P = 0
    · have e2 : ((P : Int) != 0) = false := by simp [e]
      go_wp2
      go_ret
      exact ⟨ret_int (by unfold faultL; rw [if_neg (by decide), if_neg (by decide), if_neg (by decide), if_pos rfl, if_neg (by omega)]), rfl⟩
    have e2 : ((P : Int) != 0) = true := by simp; omega
    by_cases e3 : P = 2
    · have e4 : ((P : Int) != 2) = false := by simp [e3]
      go_wp2
      go_ret
      exact ⟨ret_int (by unfold faultL; rw [if_neg (by decide), if_neg (by decide), if_neg (by decide), if_pos rfl, if_neg (by omega)]), rfl⟩
    have e4 : ((P : Int) != 2) = true := by simp; omega
    go_wp2
    go_ret
    exact ⟨ret_int (by unfold faultL; rw [if_neg (by decide), if_neg (by decide), if_neg (by decide), if_pos rfl, if_pos ⟨e, e3⟩]), rfl⟩
  by_cases kk : K = 5
  · subst kk
    by_cases e : (d : Int) = 0
    case neg =>
      have e1 : (0 : Int) < (d : Int) := by omega
      go_wp2
      go_ret
      exact ⟨ret_int (by unfold faultL; rw [if_neg (by decide), if_neg (by decide), if_neg (by decide), if_neg (by decide), if_pos rfl, if_pos (.inl e)]), rfl⟩
    have e1 : ¬(0 : Int) < (d : Int) := by omega
    by_cases e7 : k = 0
    · have e2 : ¬(0 : Int) < (k : Int) := by omega
      have E8 := hid (P0.out.1 e7)
      clear e7
      go_wp2
      go_ret
      exact ⟨ret_int (by unfold faultL; rw [if_neg (by decide), if_neg (by decide), if_neg (by decide), if_neg (by decide), if_pos rfl, if_neg (by have := E8.out; omega)]), rfl⟩
    have e2 : (0 : Int) < (k : Int) := by omega
    have cp := KP.out (by omega)
    have i2 : (0 : Int) ≤ (k : Int) - 1 := by omega
    have i3 : (k : Int) - 1 < (n : Int) := by omega
    have e9 : P ≠ 7 := fun h => e7 (P0.out.2 h)
    by_cases e4 : P = 3
    · have e5 : ((P : Int) != 3) = false := by simp [e4]
      go_wp2
      go_ret
      exact ⟨ret_int (by unfold faultL; rw [if_neg (by decide), if_neg (by decide), if_neg (by decide), if_neg (by decide), if_pos rfl, if_neg (by omega)]), rfl⟩
    have e5 : ((P : Int) != 3) = true := by simp; omega
    go_wp2
    go_ret
    exact ⟨ret_int (by unfold faultL; rw [if_neg (by decide), if_neg (by decide), if_neg (by decide), if_neg (by decide), if_pos rfl, if_pos (.inr ⟨e9, e4⟩)]), rfl⟩
  by_cases kk : K = 6
  · subst kk
    by_cases e : (d : Int) = 0
    case neg =>
      have e1 : (0 : Int) < (d : Int) := by omega
      go_wp2
      go_ret
      exact ⟨ret_int (by unfold faultL; rw [if_neg (by decide), if_neg (by decide), if_neg (by decide), if_neg (by decide), if_neg (by decide), if_pos rfl, if_pos (.inl e)]), rfl⟩
    have e1 : ¬(0 : Int) < (d : Int) := by omega
    by_cases e7 : k + 1 < n
    case neg =>
      have e2 : ¬(k : Int) + 1 < (n : Int) := by omega
      have e8 := X0.out.1 e7
      rcases hO with hO | hO
      · rw [hO]
        go_wp2
        go_ret
        exact ⟨ret_int (by unfold faultL; rw [if_neg (by decide), if_neg (by decide), if_neg (by decide), if_neg (by decide), if_neg (by decide), if_pos rfl, if_neg (by omega), if_pos (of_decide_eq_true hO)]), rfl⟩
      · rw [hO]
        go_wp2
        go_ret
        exact ⟨ret_int (by unfold faultL; rw [if_neg (by decide), if_neg (by decide), if_neg (by decide), if_neg (by decide), if_neg (by decide), if_pos rfl, if_neg (by omega), if_neg (of_decide_eq_false hO)]), rfl⟩
    have e2 : (k : Int) + 1 < (n : Int) := by omega
    have cp := KX.out e7
    have e9 : X ≠ 7 := fun h => absurd e7 (X0.out.2 h)
    by_cases e4 : X = 3
    · have e5 : ((X : Int) != 3) = false := by simp [e4]
      rcases hO with hO | hO
      · rw [hO]
        go_wp2
        go_ret
        exact ⟨ret_int (by unfold faultL; rw [if_neg (by decide), if_neg (by decide), if_neg (by decide), if_neg (by decide), if_neg (by decide), if_pos rfl, if_neg (by omega), if_pos (of_decide_eq_true hO)]), rfl⟩
      · rw [hO]
        go_wp2
        go_ret
        exact ⟨ret_int (by unfold faultL; rw [if_neg (by decide), if_neg (by decide), if_neg (by decide), if_neg (by decide), if_neg (by decide), if_pos rfl, if_neg (by omega), if_neg (of_decide_eq_false hO)]), rfl⟩
    have e5 : ((X : Int) != 3) = true := by simp; omega
    go_wp2
    go_ret
    exact ⟨ret_int (by unfold faultL; rw [if_neg (by decide), if_neg (by decide), if_neg (by decide), if_neg (by decide), if_neg (by decide), if_pos rfl, if_pos (.inr ⟨e9, e4⟩)]), rfl⟩
  omega
end Go.Proofs.YtgbdlgogccgciaaGreatDoor
