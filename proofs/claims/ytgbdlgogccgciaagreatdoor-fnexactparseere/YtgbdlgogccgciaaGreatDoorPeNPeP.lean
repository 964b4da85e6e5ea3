import Derived.Test.YtgbdlgogccgciaaGreatDoorPeM
import Derived.Deep.Cut
import Derived.Deep.CutRange
namespace Go.Proofs.YtgbdlgogccgciaaGreatDoor
open Go.RowKit
attribute [local go_sem ↓] Go.wp_at_zero Go.wp_at_succ

/- TOKENS READ AGAIN: a part of the row, from the cell O of block G on; g groups have begun ahead. -/
structure TkV (W : World) (G O g : Nat) (l : List Tok) (q : Nat → Nat) : Prop where
  lt : G < W.heap.size
  cel : ∀ k, k < l.length → ∀ j, j < 5 → W.cell? ⟨G, O + k * 5 + j, none⟩ = (tkC g l q k)[j]?
  set : ∀ k, k < l.length → kAt l k = 0 → BRow W (q k) (l.getD k tokZ).set
  kin : ∀ k, k < l.length → kAt l k < 7
theorem TkV.kindC {W : World} {G O g : Nat} {l : List Tok} {q : Nat → Nat} (h : TkV W G O g l q) {k : Nat} (hk : k < l.length) : W.cell? ⟨G, O + k * 5, none⟩ = some (.int .u8 (kB (kAt l k))) := h.cel k hk 0 (by omega)
theorem TkV.posC {W : World} {G O g : Nat} {l : List Tok} {q : Nat → Nat} (h : TkV W G O g l q) {k : Nat} (hk : k < l.length) : W.cell? ⟨G, O + k * 5 + 1, none⟩ = some (.int .i64 ((l.getD k tokZ).pos : Int)) := h.cel k hk 1 (by omega)
theorem TkV.setC {W : World} {G O g : Nat} {l : List Tok} {q : Nat → Nat} (h : TkV W G O g l q) {k : Nat} (hk : k < l.length) : W.cell? ⟨G, O + k * 5 + 2, none⟩ = some (setV (l.getD k tokZ) (q k)) := h.cel k hk 2 (by omega)
theorem TkV.minC {W : World} {G O g : Nat} {l : List Tok} {q : Nat → Nat} (h : TkV W G O g l q) {k : Nat} (hk : k < l.length) : W.cell? ⟨G, O + k * 5 + 3, none⟩ = some (.int .i64 (mS g l k)) := h.cel k hk 3 (by omega)
theorem TkV.maxC {W : World} {G O g : Nat} {l : List Tok} {q : Nat → Nat} (h : TkV W G O g l q) {k : Nat} (hk : k < l.length) : W.cell? ⟨G, O + k * 5 + 4, none⟩ = some (.int .i64 (l.getD k tokZ).mx) := h.cel k hk 4 (by omega)
theorem TkV.below {W W' : World} {G O g : Nat} {l : List Tok} {q : Nat → Nat} (h : TkV W G O g l q) (hb : Below W.heap.size W W') : TkV W' G O g l q :=
  ⟨Nat.lt_of_lt_of_le h.lt hb.size, fun k hk j hj => by rw [World.cell?_of_block (w := W) (hb.block G h.lt)]; exact h.cel k hk j hj, fun k hk h0 => row_below (h.set k hk h0) hb, h.kin⟩
theorem TkV.sub {W : World} {G O g : Nat} {a b c : List Tok} {q : Nat → Nat} (h : TkV W G O g (a ++ (b ++ c)) q) : TkV W G (O + a.length * 5) (g + numN a a.length) b (fun k => q (a.length + k)) := by
  have hl : ∀ k, k < b.length → a.length + k < (a ++ (b ++ c)).length := fun k hk => by simp; omega
  have hg : ∀ k, k < b.length → (a ++ (b ++ c)).getD (a.length + k) tokZ = b.getD k tokZ := fun k hk => by rw [getD_app2, getD_app _ hk]
  have hk2 : ∀ k, k < b.length → kAt (a ++ (b ++ c)) (a.length + k) = kAt b k := fun k hk => by rw [kAt_app2, kAt_app _ hk]
  refine ⟨h.lt, fun k hk j hj => ?_, fun k hk h0 => ?_, fun k hk => ?_⟩
  · have := h.cel (a.length + k) (hl k hk) j hj
    rw [show O + (a.length + k) * 5 + j = O + a.length * 5 + k * 5 + j by omega] at this
    rw [this]
    unfold tkC mS
    rw [hg k hk, hk2 k hk, Nat.add_assoc, numN_app2, numN_app _ (by omega), show g + (numN a a.length + numN b (k + 1)) = g + numN a a.length + numN b (k + 1) by omega]
  · have := h.set (a.length + k) (hl k hk) (by rw [hk2 k hk]; exact h0)
    rw [hg k hk] at this
    exact this
  · have := h.kin (a.length + k) (hl k hk)
    rw [hk2 k hk] at this
    exact this

theorem depI_bd (l : List Tok) : ∀ k : Nat, -(k : Int) ≤ depI l k ∧ depI l k ≤ k
  | 0 => ⟨by show -((0 : Nat) : Int) ≤ (0 : Int); omega, by show (0 : Int) ≤ ((0 : Nat) : Int); omega⟩
  | k + 1 => by
    have := depI_bd l k
    show -((k + 1 : Nat) : Int) ≤ depI l k + (if kAt l k = 1 then 1 else if kAt l k = 2 then -1 else 0) ∧ depI l k + (if kAt l k = 1 then 1 else if kAt l k = 2 then -1 else 0) ≤ ((k + 1 : Nat) : Int)
    split
    · omega
    · split <;> omega
/- A kind held against a byte. -/
theorem kB_eq {k : Nat} (hk : k < 7) (m : Nat) (hm : m < 7) : (kB k == kB m) = decide (k = m) := by
  by_cases h : k = m
  · subst h; simp
  · have : kB k ≠ kB m := fun e => h (kB_inj hk hm e)
    simp [this, h]

set_option maxRecDepth 100000 in
set_option maxHeartbeats 1000000 in
theorem l1Depth_ok {G O g c : Nat} {l : List Tok} {q : Nat → Nat} {k : Nat} {ck : Int} (w : World) (h : TkV w G O g l q) (hk : k ≤ l.length) (hc : ck = k) (hl : l.length ≤ 2000) :
    Calls Tryz.prog 12 #[.slice (some ⟨G, O, none⟩) l.length c, .int .i64 ck] w fun e w' => e = .returned (.int .i64 (depI l k)) ∧ w' = w := by
  subst hc
  obtain ⟨n, hn⟩ : ∃ n, n = l.length := ⟨_, rfl⟩
  rw [← hn]
  go_enter Tryz.func12, Tryz.ntmps12
  go_wp2
  go_loop [5, 6] (fun d i => ∃ j : Nat, j ≤ k ∧ i = .int .i64 (j : Int) ∧ d = .int .i64 (depI l j)) (fun _ i => k - (intOf i).toNat)
  case atStart => exact ⟨0, by omega, rfl, rfl⟩
  case round =>
    obtain ⟨j, hj, rfl, rfl⟩ := hrel
    by_cases hlt : j < k
    · have h1 : (j : Int) < (k : Int) := by omega
      have h2 : (j : Int) < (n : Int) := by omega
      have hjl : j < l.length := by omega
      have c0 := h.kindC hjl
      have hb := depI_bd l j
      have hb1 : -2000 ≤ depI l j := by omega
      have hb2 : depI l j ≤ 2000 := by omega
      have hk7 := h.kin j hjl
      have e1 := kB_eq hk7 1 (by omega)
      have e2 := kB_eq hk7 2 (by omega)
      have HD : Hid (depI l (j + 1) = depI l j + (if kAt l j = 1 then 1 else if kAt l j = 2 then -1 else 0)) := rfl
      generalize hK : kAt l j = K at c0 e1 e2 HD
      generalize hKB : kB K = KB at c0 e1 e2
      generalize hDD : depI l j = D at hb hb1 hb2 HD
      have e1 : (KB == 40) = decide (K = 1) := e1
      have e2 : (KB == 41) = decide (K = 2) := e2
      by_cases k1 : K = 1
      · subst k1
        have e1 : (KB == 40) = true := e1
        have e2 : (KB == 41) = false := e2
        go_wp2
        go_round
        case rel => exact ⟨j + 1, by omega, by go_num, by rw [HD.out]; go_num⟩
        case measure => simp [intOf]; omega
      by_cases k2 : K = 2
      · subst k2
        have e1 : (KB == 40) = false := e1
        have e2 : (KB == 41) = true := e2
        go_wp2
        go_round
        case rel => exact ⟨j + 1, by omega, by go_num, by rw [HD.out]; go_num⟩
        case measure => simp [intOf]; omega
      · have e1 : (KB == 40) = false := by rw [e1]; simpa using k1
        have e2 : (KB == 41) = false := by rw [e2]; simpa using k2
        go_wp2
        go_round
        case rel => exact ⟨j + 1, by omega, by go_num, by rw [HD.out, if_neg k1, if_neg k2, Int.add_zero]⟩
        case measure => simp [intOf]; omega
    · have hjk : j = k := by omega
      subst hjk
      go_wp2
      go_ret
      exact ⟨rfl, rfl⟩
set_option maxRecDepth 100000 in
set_option maxHeartbeats 1000000 in
/-- The kind at k, 46 outside. -/
theorem l1Kind_in {G O g c : Nat} {l : List Tok} {q : Nat → Nat} {k : Nat} {ck : Int} (w : World) (h : TkV w G O g l q) (hk : k < l.length) (hc : ck = k) :
    Calls Tryz.prog 11 #[.slice (some ⟨G, O, none⟩) l.length c, .int .i64 ck] w fun e w' => e = .returned (.int .u8 (kB (kAt l k))) ∧ w' = w := by
  subst hc
  have c0 := h.kindC hk
  generalize kB (kAt l k) = K at c0 ⊢
  have h1 : (k : Int) < (l.length : Int) := by omega
  go_enter Tryz.func11, Tryz.ntmps11
  go_wp2
  go_ret
  exact ⟨rfl, rfl⟩
set_option maxRecDepth 100000 in
set_option maxHeartbeats 1000000 in
theorem l1Kind_out {v : Option Addr} {n c : Nat} {ck : Int} (w : World) (hc : ck < 0 ∨ (n : Int) ≤ ck) :
    Calls Tryz.prog 11 #[.slice v n c, .int .i64 ck] w fun e w' => e = .returned (.int .u8 46) ∧ w' = w := by
  go_enter Tryz.func11, Tryz.ntmps11
  by_cases h0 : ck < 0
  · go_wp2
    go_ret
    exact ⟨rfl, rfl⟩
  · have h1 : (n : Int) ≤ ck := by omega
    have h2 : ¬ck < (n : Int) := by omega
    go_wp2
    go_ret
    exact ⟨rfl, rfl⟩
end Go.Proofs.YtgbdlgogccgciaaGreatDoor
namespace Go.Proofs.YtgbdlgogccgciaaGreatDoor
open Go.RowKit
attribute [local go_sem ↓] Go.wp_at_zero Go.wp_at_succ

/- THE FAULT OF ONE TOKEN; WHAT IS NEVER CLOSED: THE SPECIFICATION's SIDE. -/
def pB (p : Nat) : Int := if p = 7 then 46 else kB p
theorem pB_eq {p : Nat} (hp : p < 8) (m : Nat) (hm : m < 7) : (pB p == kB m) = decide (p = m) := by
  unfold pB
  by_cases h : p = 7
  · subst h
    rw [if_pos rfl]
    have : (46 : Int) ≠ kB m := by
      match m, hm with
      | 0, _ | 1, _ | 2, _ | 3, _ | 4, _ | 5, _ | 6, _ => decide
    have h2 : ¬7 = m := by omega
    simp [this, h2]
  · rw [if_neg h]; exact kB_eq (by omega) m hm
theorem prevK_lt {l : List Tok} (h : Kinds l) {k : Nat} (hk : k ≤ l.length) : prevK l k < 8 := by
  unfold prevK
  split
  · omega
  · have := h (k - 1) (by omega); omega
theorem nextK_lt {l : List Tok} (h : Kinds l) (k : Nat) : nextK l k < 8 := by
  unfold nextK
  split
  · rename_i h1; have := h (k + 1) h1; omega
  · omega
theorem l1Kind_prev {G O g c : Nat} {l : List Tok} {q : Nat → Nat} {k : Nat} {ck : Int} (w : World) (h : TkV w G O g l q) (hk : k ≤ l.length) (hc : ck = (k : Int) - 1) :
    Calls Tryz.prog 11 #[.slice (some ⟨G, O, none⟩) l.length c, .int .i64 ck] w fun e w' => e = .returned (.int .u8 (pB (prevK l k))) ∧ w' = w := by
  unfold pB prevK
  by_cases h0 : k = 0
  · rw [if_pos h0, if_pos rfl]
    exact l1Kind_out w (.inl (by omega))
  · rw [if_neg h0]
    have := h.kin (k - 1) (by omega)
    rw [if_neg (by omega)]
    exact l1Kind_in w h (by omega) (by omega)
theorem l1Kind_next {G O g c : Nat} {l : List Tok} {q : Nat → Nat} {k : Nat} {ck : Int} (w : World) (h : TkV w G O g l q) (hc : ck = (k : Int) + 1) :
    Calls Tryz.prog 11 #[.slice (some ⟨G, O, none⟩) l.length c, .int .i64 ck] w fun e w' => e = .returned (.int .u8 (pB (nextK l k))) ∧ w' = w := by
  unfold pB nextK
  by_cases h0 : k + 1 < l.length
  · rw [if_pos h0]
    have := h.kin (k + 1) h0
    rw [if_neg (by omega)]
    exact l1Kind_in w h h0 (by omega)
  · rw [if_neg h0, if_pos rfl]
    exact l1Kind_out w (.inr (by omega))
def faultL (K P X : Nat) (D : Int) (M : Nat) : Int :=
  if K = 1 then (if 500 < M then 9 else 0)
  else if K = 2 then (if D = 0 then 7 else if opens P then 6 else 0)
  else if K = 3 then (if opens P then 6 else 0)
  else if K = 4 then (if P ≠ 0 ∧ P ≠ 2 then 6 else 0)
  else if K = 5 then (if D ≠ 0 ∨ (P ≠ 7 ∧ P ≠ 3) then 5 else 0)
  else if K = 6 then (if D ≠ 0 ∨ (X ≠ 7 ∧ X ≠ 3) then 5 else if opens P then 6 else 0)
  else 0
theorem faultL_eq (l : List Tok) (k : Nat) : faultF l k = faultL (kAt l k) (prevK l k) (nextK l k) (depI l k) (numN l (k + 1)) := rfl

set_option maxRecDepth 100000 in
set_option maxHeartbeats 4000000 in
theorem l1Fault_ok {G O c : Nat} {l : List Tok} {q : Nat → Nat} {k : Nat} (w : World) (h : TkV w G O 0 l q) (hk : k < l.length) (hl : l.length ≤ 2000) :
    Calls Tryz.prog 10 #[.slice (some ⟨G, O, none⟩) l.length c, .int .i64 (k : Int)] w fun e w' => e = .returned (.int .i64 (faultF l k)) ∧ w' = w := by
  have hP8 := prevK_lt h.kin (k := k) (by omega)
  have hX8 := nextK_lt h.kin k
  have hK7 := h.kin k hk
  have hP0 : k = 0 ↔ prevK l k = 7 := by
    unfold prevK
    by_cases h0 : k = 0
    · simp [h0]
    · rw [if_neg h0]; have := h.kin (k - 1) (by omega); omega
  have hX0 : ¬k + 1 < l.length ↔ nextK l k = 7 := by
    unfold nextK
    by_cases h0 : k + 1 < l.length
    · rw [if_pos h0]; have := h.kin (k + 1) h0; omega
    · simp [h0]
  have c1 := l1Kind_prev (c := c) w h (k := k) (ck := (k : Int) - 1) (by omega) rfl
  have c2 := l1Kind_next (c := c) w h (k := k) (ck := (k : Int) + 1) rfl
  have c3 := l1Depth_ok (c := c) w h (k := k) (ck := k) (by omega) rfl hl
  have k0 := h.kindC hk
  have k3 := h.minC hk
  have hm : kAt l k = 1 → mS 0 l k = (numN l (k + 1) : Int) := fun e => by unfold mS; rw [if_pos e, Nat.zero_add]
  have hnm := tnum_le l (k + 1)
  rw [faultL_eq]
  generalize prevK l k = P at *
  generalize nextK l k = X at *
  generalize depI l k = D at *
  generalize kAt l k = K at *
  generalize numN l (k + 1) = M at *
  generalize mS 0 l k = MS at *
  obtain ⟨n, hn⟩ : ∃ n, n = l.length := ⟨_, rfl⟩
  rw [← hn] at c1 c2 c3 hX0 ⊢
  have h1 : (k : Int) < (n : Int) := by omega
  have Hp : ∀ m, m < 7 → (pB P == kB m) = decide (P = m) := fun m hm => pB_eq hP8 m hm
  have Hx : ∀ m, m < 7 → (pB X == kB m) = decide (X = m) := fun m hm => pB_eq hX8 m hm
  have p1 : (pB P == 40) = decide (P = 1) := Hp 1 (by omega)
  have p3 : (pB P == 124) = decide (P = 3) := Hp 3 (by omega)
  have p5 : (pB P == 94) = decide (P = 5) := Hp 5 (by omega)
  have p0 : (pB P == 97) = decide (P = 0) := Hp 0 (by omega)
  have p2 : (pB P == 41) = decide (P = 2) := Hp 2 (by omega)
  have x3 : (pB X == 124) = decide (X = 3) := Hx 3 (by omega)
  clear Hp Hx
  have q3 : (pB P != 124) = !decide (P = 3) := by rw [← p3]; rfl
  have q0 : (pB P != 97) = !decide (P = 0) := by rw [← p0]; rfl
  have q2 : (pB P != 41) = !decide (P = 2) := by rw [← p2]; rfl
  have y3 : (pB X != 124) = !decide (X = 3) := by rw [← x3]; rfl
  generalize pB P = PB at *
  generalize pB X = XB at *
  have hk2 : k ≤ 2000 := by omega
  have hn2 : n ≤ 2000 := by omega
  clear hn
  have Hk : Hid _ := hk
  have Hl : Hid _ := hl
  have P0 : Hid _ := hP0
  have X0 : Hid _ := hX0
  have P1 : Hid _ := p1
  have P3 : Hid _ := p3
  have P5 : Hid _ := p5
  have Q0 : Hid _ := q0
  have Q2 : Hid _ := q2
  have Q3 : Hid _ := q3
  have Y3 : Hid _ := y3
  have HM : Hid _ := hm
  have K0 : Hid _ := k0
  have K3 : Hid _ := k3
  clear hk hl hP0 hX0 p0 p1 p2 p3 p5 q0 q2 q3 x3 y3 hm k0 k3 h
  go_enter Tryz.func10, Tryz.ntmps10
  go_wp2_with fail
  refine c1.mono ?_
  rintro e w' ⟨rfl, hw⟩
  rw [hw]
  clear hw w' c1
  go_wp2_with fail
  refine c2.mono ?_
  rintro e w' ⟨rfl, hw⟩
  rw [hw]
  clear hw w' c2
  go_wp2_with fail
  refine c3.mono ?_
  rintro e w' ⟨rfl, hw⟩
  rw [hw]
  clear hw w' c3
  go_upto_region 4 with fail
  go_cut [8] from 9 to 33 (fun v wx => v = .bool (decide (opens P)) ∧ wx = w)
  case first =>
    by_cases e0 : k = 0
    · have a0 : ((k : Int) == 0) = true := by simpa using e0
      have ho : decide (opens P) = true := by have := P0.out.1 e0; simp [opens, this]
      go_wp2
      go_meet
      case rel => exact ⟨by rw [ho], rfl⟩
    have a0 : ((k : Int) == 0) = false := by simpa using e0
    have hP7 : P ≠ 7 := fun h => e0 (P0.out.2 h)
    by_cases e1 : P = 1
    · have p1 : (PB == 40) = true := by rw [P1.out]; simpa using e1
      have ho : decide (opens P) = true := by simp [opens, e1]
      go_wp2
      go_meet
      case rel => exact ⟨by rw [ho], rfl⟩
    have p1 : (PB == 40) = false := by rw [P1.out]; simpa using e1
    by_cases e3 : P = 3
    · have p3 : (PB == 124) = true := by rw [P3.out]; simpa using e3
      have ho : decide (opens P) = true := by simp [opens, e3]
      go_wp2
      go_meet
      case rel => exact ⟨by rw [ho], rfl⟩
    have p3 : (PB == 124) = false := by rw [P3.out]; simpa using e3
    by_cases e5 : P = 5
    · have p5 : (PB == 94) = true := by rw [P5.out]; simpa using e5
      have ho : decide (opens P) = true := by simp [opens, e5]
      go_wp2
      go_meet
      case rel => exact ⟨by rw [ho], rfl⟩
    have p5 : (PB == 94) = false := by rw [P5.out]; simpa using e5
    have ho : decide (opens P) = false := by simp [opens, e1, e3, e5, hP7]
    go_wp2
    go_meet
    case rel => exact ⟨by rw [ho], rfl⟩
  obtain ⟨rfl, rfl⟩ := hcut
  have hO : decide (opens P) = true ∨ decide (opens P) = false := by cases decide (opens P) <;> simp
  by_cases kk : K = 0
  · subst kk
    have k0 : wc.cell? ⟨G, O + k * 5, none⟩ = some (.int .u8 97) := K0.out
    go_wp2
    go_ret
    exact ⟨ret_int (by unfold faultL; rw [if_neg (by decide), if_neg (by decide), if_neg (by decide), if_neg (by decide), if_neg (by decide), if_neg (by decide)]), rfl⟩
  by_cases kk : K = 1
  · subst kk
    have k0 : wc.cell? ⟨G, O + k * 5, none⟩ = some (.int .u8 40) := K0.out
    have k3 : wc.cell? ⟨G, O + k * 5 + 3, none⟩ = some (.int .i64 (M : Int)) := by rw [← HM.out rfl]; exact K3.out
    by_cases e : 500 < M
    · have e1 : (500 : Int) < (M : Int) := by omega
      go_wp2
      go_ret
      exact ⟨ret_int (by unfold faultL; rw [if_pos rfl, if_pos e]), rfl⟩
    · have e1 : ¬(500 : Int) < (M : Int) := by omega
      go_wp2
      go_ret
      exact ⟨ret_int (by unfold faultL; rw [if_pos rfl, if_neg e]), rfl⟩
  by_cases kk : K = 2
  · subst kk
    have k0 : wc.cell? ⟨G, O + k * 5, none⟩ = some (.int .u8 41) := K0.out
    by_cases e : D = 0
    · have e1 : (D == 0) = true := by simpa using e
      go_wp2
      go_ret
      exact ⟨ret_int (by unfold faultL; rw [if_neg (by decide), if_pos rfl, if_pos e]), rfl⟩
    · have e1 : (D == 0) = false := by simpa using e
      rcases hO with hO | hO
      · rw [hO]
        go_wp2
        go_ret
        exact ⟨ret_int (by unfold faultL; rw [if_neg (by decide), if_pos rfl, if_neg e, if_pos (of_decide_eq_true hO)]), rfl⟩
      · rw [hO]
        go_wp2
        go_ret
        exact ⟨ret_int (by unfold faultL; rw [if_neg (by decide), if_pos rfl, if_neg e, if_neg (of_decide_eq_false hO)]), rfl⟩
  by_cases kk : K = 3
  · subst kk
    have k0 : wc.cell? ⟨G, O + k * 5, none⟩ = some (.int .u8 124) := K0.out
    rcases hO with hO | hO
    · rw [hO]
      go_wp2
      go_ret
      exact ⟨ret_int (by unfold faultL; rw [if_neg (by decide), if_neg (by decide), if_pos rfl, if_pos (of_decide_eq_true hO)]), rfl⟩
    · rw [hO]
      go_wp2
      go_ret
      exact ⟨ret_int (by unfold faultL; rw [if_neg (by decide), if_neg (by decide), if_pos rfl, if_neg (of_decide_eq_false hO)]), rfl⟩
  by_cases kk : K = 4
  · subst kk
    have k0 : wc.cell? ⟨G, O + k * 5, none⟩ = some (.int .u8 114) := K0.out
    by_cases e : P = 0
    · have e1 : (PB != 97) = false := by rw [Q0.out]; simp [e]
      go_wp2
      go_ret
      exact ⟨ret_int (by unfold faultL; rw [if_neg (by decide), if_neg (by decide), if_neg (by decide), if_pos rfl, if_neg (by simp [e])]), rfl⟩
    have e1 : (PB != 97) = true := by rw [Q0.out]; simp [e]
    by_cases e2 : P = 2
    · have e3 : (PB != 41) = false := by rw [Q2.out]; simp [e2]
      go_wp2
      go_ret
      exact ⟨ret_int (by unfold faultL; rw [if_neg (by decide), if_neg (by decide), if_neg (by decide), if_pos rfl, if_neg (by simp [e2])]), rfl⟩
    have e3 : (PB != 41) = true := by rw [Q2.out]; simp [e2]
    go_wp2
    go_ret
    exact ⟨ret_int (by unfold faultL; rw [if_neg (by decide), if_neg (by decide), if_neg (by decide), if_pos rfl, if_pos ⟨e, e2⟩]), rfl⟩
  by_cases kk : K = 5
  · subst kk
    have k0 : wc.cell? ⟨G, O + k * 5, none⟩ = some (.int .u8 94) := K0.out
    by_cases e : D = 0
    case neg =>
      have e1 : (D != 0) = true := by simpa using e
      go_wp2
      go_ret
      exact ⟨ret_int (by unfold faultL; rw [if_neg (by decide), if_neg (by decide), if_neg (by decide), if_neg (by decide), if_pos rfl, if_pos (.inl e)]), rfl⟩
    have e1 : (D != 0) = false := by simpa using e
    by_cases e2 : P = 7
    · have e3 : ¬(0 : Int) < (k : Int) := by have := P0.out.2 e2; omega
      go_wp2
      go_ret
      exact ⟨ret_int (by unfold faultL; rw [if_neg (by decide), if_neg (by decide), if_neg (by decide), if_neg (by decide), if_pos rfl, if_neg (by omega)]), rfl⟩
    have e3 : (0 : Int) < (k : Int) := by have := P0.out.1; omega
    by_cases e4 : P = 3
    · have e5 : (PB != 124) = false := by rw [Q3.out]; simp [e4]
      go_wp2
      go_ret
      exact ⟨ret_int (by unfold faultL; rw [if_neg (by decide), if_neg (by decide), if_neg (by decide), if_neg (by decide), if_pos rfl, if_neg (by omega)]), rfl⟩
    have e5 : (PB != 124) = true := by rw [Q3.out]; simp [e4]
    go_wp2
    go_ret
    exact ⟨ret_int (by unfold faultL; rw [if_neg (by decide), if_neg (by decide), if_neg (by decide), if_neg (by decide), if_pos rfl, if_pos (.inr ⟨e2, e4⟩)]), rfl⟩
  by_cases kk : K = 6
  · subst kk
    have k0 : wc.cell? ⟨G, O + k * 5, none⟩ = some (.int .u8 36) := K0.out
    by_cases e : D = 0
    case neg =>
      have e1 : (D != 0) = true := by simpa using e
      go_wp2
      go_ret
      exact ⟨ret_int (by unfold faultL; rw [if_neg (by decide), if_neg (by decide), if_neg (by decide), if_neg (by decide), if_neg (by decide), if_pos rfl, if_pos (.inl e)]), rfl⟩
    have e1 : (D != 0) = false := by simpa using e
    by_cases e2 : X = 7
    · have e3 : ¬(k : Int) + 1 < (n : Int) := by have := X0.out.2 e2; omega
      rcases hO with hO | hO
      · rw [hO]
        go_wp2
        go_ret
        exact ⟨ret_int (by unfold faultL; rw [if_neg (by decide), if_neg (by decide), if_neg (by decide), if_neg (by decide), if_neg (by decide), if_pos rfl, if_neg (by omega), if_pos (of_decide_eq_true hO)]), rfl⟩
      · rw [hO]
        go_wp2
        go_ret
        exact ⟨ret_int (by unfold faultL; rw [if_neg (by decide), if_neg (by decide), if_neg (by decide), if_neg (by decide), if_neg (by decide), if_pos rfl, if_neg (by omega), if_neg (of_decide_eq_false hO)]), rfl⟩
    have e3 : (k : Int) + 1 < (n : Int) := by have := X0.out.1; omega
    by_cases e4 : X = 3
    · have e5 : (XB != 124) = false := by rw [Y3.out]; simp [e4]
      rcases hO with hO | hO
      · rw [hO]
        go_wp2
        go_ret
        exact ⟨ret_int (by unfold faultL; rw [if_neg (by decide), if_neg (by decide), if_neg (by decide), if_neg (by decide), if_neg (by decide), if_pos rfl, if_neg (by omega), if_pos (of_decide_eq_true hO)]), rfl⟩
      · rw [hO]
        go_wp2
        go_ret
        exact ⟨ret_int (by unfold faultL; rw [if_neg (by decide), if_neg (by decide), if_neg (by decide), if_neg (by decide), if_neg (by decide), if_pos rfl, if_neg (by omega), if_neg (of_decide_eq_false hO)]), rfl⟩
    have e5 : (XB != 124) = true := by rw [Y3.out]; simp [e4]
    go_wp2
    go_ret
    exact ⟨ret_int (by unfold faultL; rw [if_neg (by decide), if_neg (by decide), if_neg (by decide), if_neg (by decide), if_neg (by decide), if_pos rfl, if_pos (.inr ⟨e2, e4⟩)]), rfl⟩
  omega
def UnclA (w : World) (l : List Tok) (k : Nat) (e : Ending) (w' : World) : Prop := ∃ b : Bool, e = .returned (.bool b) ∧ w' = w ∧ (b = true ↔ Unclosed l k)
set_option maxRecDepth 100000 in
set_option maxHeartbeats 1000000 in
theorem l1Unclosed_ok {G O g c : Nat} {l : List Tok} {q : Nat → Nat} {k : Nat} (w : World) (h : TkV w G O g l q) (hk : k < l.length) (hcap : l.length ≤ c) (hc2 : c ≤ 9223372036854775807) (hl : l.length ≤ 2000) :
    Calls Tryz.prog 13 #[.slice (some ⟨G, O, none⟩) l.length c, .int .i64 (k : Int)] w (UnclA w l k) := by
  have hab : l = l.take k ++ (l.drop k ++ []) := by simp
  have hs : TkV w G (O + k * 5) (g + numN (l.take k) (l.take k).length) (l.drop k) (fun j => q ((l.take k).length + j)) := by
    have h2 := h
    rw [hab] at h2
    have := h2.sub
    rw [show (l.take k).length = k by simp; omega] at this ⊢
    exact this
  have hd : ∀ e, k ≤ e → e ≤ l.length → depI (l.drop k) (e - k) = depI l e - depI l k := by
    intro e h1 h2
    have h3 := depI_app2 (l.take k) (l.drop k) (e - k)
    rw [List.take_append_drop, show (l.take k).length = k by simp; omega, show k + (e - k) = e by omega] at h3
    have h4 : depI (l.take k) k = depI l k := by
      have := depI_app (l := l.take k) (l.drop k) (k := k) (by simp; omega)
      rw [List.take_append_drop] at this
      exact this.symm
    omega
  clear hab
  have hld : (l.drop k).length = l.length - k := List.length_drop
  obtain ⟨n, hn⟩ : ∃ n, n = l.length := ⟨_, rfl⟩
  rw [← hn]
  have hkn : (k : Int) ≤ (n : Int) := by omega
  have hcn : (n : Int) ≤ (c : Int) := by omega
  have hc3 : (c : Int) ≤ 9223372036854775807 := by omega
  rw [← hn] at hld
  have HN : Hid _ := hn
  have hn2 : n ≤ 2000 := by omega
  have hk2 : k < n := by omega
  clear hn hk hl hcap
  go_enter Tryz.func13, Tryz.ntmps13
  go_wp2
  go_loop [5] (fun i => ∃ e : Nat, k < e ∧ e ≤ n + 1 ∧ i = .int .i64 (e : Int) ∧ ∀ j, k < j → j < e → depI l j ≠ depI l k) (fun i => n + 1 - (intOf i).toNat)
  case atStart => exact ⟨k + 1, by omega, by omega, by go_num, fun j h1 h2 => by omega⟩
  case round =>
    obtain ⟨e, he1, he2, rfl, hall⟩ := hrel
    by_cases hle : e ≤ n
    · have h1 : (e : Int) ≤ (n : Int) := by omega
      have hC := l1Depth_ok (c := c - k) w hs (k := e - k) (ck := (e : Int) - k) (by omega) (by omega) (by omega)
      rw [hd e (by omega) (by have := HN.out; omega), hld] at hC
      have i1 : ((n : Int) - (k : Int)).toNat = n - k := by omega
      have i2 : ((c : Int) - (k : Int)).toNat = c - k := by omega
      by_cases hz : depI l e - depI l k = 0
      · have hzb : (depI l e - depI l k == 0) = true := by simpa using hz
        have HZ : Hid _ := hz
        clear hz
        go_wp2_with fail
        refine hC.mono ?_
        rintro e' w' ⟨rfl, rfl⟩
        go_wp2
        go_ret
        exact ⟨false, rfl, rfl, ⟨fun h => absurd h (by decide), fun hU => absurd (show depI l e = depI l k by have := HZ.out; omega) (hU e he1 (by have := HN.out; omega))⟩⟩
      · have hzb : (depI l e - depI l k == 0) = false := by simpa using hz
        go_wp2_with fail
        refine hC.mono ?_
        rintro e' w' ⟨rfl, rfl⟩
        go_wp2
        go_round
        case rel =>
          refine ⟨e + 1, by omega, by omega, by go_num, fun j h1 h2 => ?_⟩
          by_cases hj : j = e
          · subst hj; omega
          · exact hall j h1 (by omega)
        case measure => simp [intOf]; omega
    · have h1 : ¬(e : Int) ≤ (n : Int) := by omega
      go_wp2
      go_ret
      exact ⟨true, rfl, rfl, ⟨fun _ j h1 h2 => hall j h1 (by have := HN.out; omega), fun _ => rfl⟩⟩
end Go.Proofs.YtgbdlgogccgciaaGreatDoor
