import Derived.Test.YtipndbhedaknnaaDoorPrdK
namespace Go.Proofs.YtipndbhedaknnaaDoor
open Go.RowKit
attribute [local go_sem ↓] Go.wp_at_zero Go.wp_at_succ

theorem tmo_rd (ls : List (List UInt8)) : readL ([116, 105, 109, 101, 111, 117, 116] :: ls) = if ls.length = 3 then (⟨116, headN ls, 0, [], (actOf ls.tail).1⟩, (actOf ls.tail).2 && btw (headN ls) 1 10000) else (.zero, false) := by
  unfold readL headN
  rw [if_neg (fun x => by have := x.1; simp at this), if_neg (fun x => by have := x.1; simp at this), if_neg (fun x => by have := x.1; simp at this)]
  by_cases h : ls.length = 3
  · rw [if_pos h, if_pos ⟨rfl, by simp [h]⟩]
    rcases ls with _ | ⟨a, _ | ⟨b, _ | ⟨c, r⟩⟩⟩
    · cases h
    · cases h
    · cases h
    · rfl
  · rw [if_neg h, if_neg (fun x => h (by simpa using x.2)), if_neg (fun x => by have := x.1; simp at this)]
theorem tmo_good (ls : List (List UInt8)) : (readL ([116, 105, 109, 101, 111, 117, 116] :: ls)).2 = (!((false || !btw (headN ls) 1 10000) || !(actOf ls.tail).2) && decide (ls.tail.tail.tail.length = 0)) := by
  rw [tmo_rd]
  rcases ls with _ | ⟨a, _ | ⟨b, _ | ⟨c, _ | ⟨d, r⟩⟩⟩⟩
  · rw [act_short (by simp)]; simp
  · rw [act_short (by simp)]; simp
  · rw [act_short (by simp)]; simp
  · simp [Bool.and_comm]
  · simp
theorem tmo_vals {ls : List (List UInt8)} (h : (readL ([116, 105, 109, 101, 111, 117, 116] :: ls)).2 = true) : (readL ([116, 105, 109, 101, 111, 117, 116] :: ls)).1 = ⟨116, natOf (headN ls), 0, [], actT ls.tail⟩ := by
  rw [tmo_rd] at h ⊢
  by_cases h2 : ls.length = 3
  · rw [if_pos h2] at h ⊢
    simp only [Bool.and_eq_true] at h
    rw [actT_good h.1, natOf_in (by omega) h.2]
  · rw [if_neg h2] at h
    cases h
theorem PrAt.tmo {B br : Nat} {W : World} {sg cap : Nat} {cv : Nat → Value} {a b : Int} {ini : List StD} {s : StD} (h : PrAt B br W (.slice (some ⟨sg, 0, none⟩) (ini.length + 1) cap) cv ⟨a, b, ini ++ [s]⟩) (hbr : br < B) (x go ex : Int) (send : List UInt8) :
    PrAt B br ((((W.setCell ⟨sg, ini.length * 10 + 1, none⟩ (.int .i64 x)).setCell ⟨sg, ini.length * 10 + 2, none⟩ (.int .i64 go)).setCell ⟨sg, ini.length * 10 + 3, none⟩ (.int .i64 ex)).setCell ⟨sg, ini.length * 10 + 4, none⟩ (strV send)) (.slice (some ⟨sg, 0, none⟩) (ini.length + 1) cap) cv ⟨a, b, ini ++ [{ s with tmo := x, onT := ⟨go, ex, send⟩ }]⟩ :=
  (((h.cell hbr (c := 1) (s' := { s with tmo := x }) (by omega) rfl rfl).cell hbr (c := 2) (s' := { s with tmo := x, onT := ⟨go, s.onT.ex, s.onT.send⟩ }) (by omega) rfl rfl).cell hbr (c := 3) (s' := { s with tmo := x, onT := ⟨go, ex, s.onT.send⟩ }) (by omega) rfl rfl).cell hbr (c := 4) (by omega) rfl rfl

set_option maxRecDepth 100000 in
set_option maxHeartbeats 4000000 in
theorem timeout_ok (B br b : Nat) (sv : Value) (cv : Nat → Value) (p : PrD) (ls : List (List UInt8)) (g o cap : Nat) (w : World) (h : PrAt B br w sv cv p) (hf : FldAt w b ls false g o cap) (hB : B ≤ b) (hbr : br < B) (hls : ¬p.states = [] → 0 < p.lim) (hfew : p.states.length ≤ 200) (hs1 : (ls.headD []).length ≤ 1048576) (hs2 : (ls.tail.headD []).length ≤ 1048576) (hs3 : (ls.tail.tail.headD []).length ≤ 1048576) (htm : ∀ s ∈ p.states, 0 ≤ s.tmo) :
    Calls Tryd.prog 20 #[.pointer (some ⟨br, 0, none⟩), .pointer (some ⟨b, 0, none⟩)] w (PTo B br w p (readL ([116, 105, 109, 101, 111, 117, 116] :: ls))) := by
  have hne : br ≠ b := by omega
  have hblt := hf.lt
  have hn1 := number_ok b ls false g o cap 1 10000 w hf hs1 (by omega)
  have hac := fun W f g1 o1 cap1 (hh : FldAt W b ls.tail f g1 o1 cap1) => action_ok b ls.tail f g1 o1 cap1 W hh hs2 hs3
  obtain ⟨m1, hm1⟩ : ∃ m1, natOf (headN ls) = m1 := ⟨_, rfl⟩
  rw [hm1] at hn1
  have Hgd : Hid _ := tmo_good ls
  have Hvl : Hid _ := @tmo_vals ls
  generalize readL ([116, 105, 109, 101, 111, 117, 116] :: ls) = rd at *
  obtain ⟨ac, hact⟩ : ∃ ac, actT ls.tail = ac := ⟨_, rfl⟩
  rw [hact] at hac Hvl
  rw [hm1] at Hvl
  clear hact hm1
  obtain ⟨go, ex, send⟩ := ac
  unfold actV strV at hac
  obtain ⟨lim, most, ss⟩ := p
  dsimp only at hac hls hfew htm
  go_enter Tryd.func20, Tryd.ntmps20
  go_wp2_with fail
  refine hn1.mono ?_
  rintro e w0 ⟨rfl, hg0, g0, o0, cap0, h0⟩
  go_wp2_with fail
  refine (hac _ _ _ _ _ h0).mono ?_
  rintro e w1 ⟨rfl, hg1, g1, o1, cap1, h1⟩
  have P0 := h.field hf hne hg0
  have P1 := P0.field h0 hne hg1
  have BA : Below w1.heap.size w1 (w1.alloc (.cells #[.int .i64 go, .int .i64 ex, .string ⟨send.toArray⟩] 38)) := (Below.refl _ w1).alloc (Nat.le_refl _) _
  have P2 := P1.below BA
  have h2 := h1.grown BA h1.glt
  have M2 : MildB B br w (w1.alloc (.cells #[.int .i64 go, .int .i64 ex, .string ⟨send.toArray⟩] 38)) := ((MildB.field hf hB hg0).trans (MildB.field h0 hB hg1)).trans (MildB.below BA)
  have hag := allGood_ok b _ _ g1 o1 cap1 _ h2 rd.2 Hgd.out.symm
  clear hac P1 P0 hn1
  rcases nil_or_last ss with rfl | ⟨ini, s, rfl⟩
  · have hlt := latest_nil B br sv cv lim most _ P2
    cases hr : rd.2 with
    | false =>
      rw [hr] at hag
      go_wp2_with (first | (go_at_call 39; refine hlt.mono ?_; rintro e w' ⟨rfl, rfl⟩) | (go_at_call 36; refine hag.mono ?_; rintro e w' ⟨rfl, rfl⟩))
      go_ret
      exact ⟨M2, sv, cv, .inl ⟨hr, rfl, P2⟩⟩
    | true =>
      rw [hr] at hag
      have HO : Hid (orderF ⟨lim, most, []⟩ rd.1 = false) := by show _ = _; rw [Hvl.out hr]; unfold orderF; simp
      go_wp2_with (first | (go_at_call 39; refine hlt.mono ?_; rintro e w' ⟨rfl, rfl⟩) | (go_at_call 36; refine hag.mono ?_; rintro e w' ⟨rfl, rfl⟩))
      go_ret
      exact ⟨M2, sv, cv, .inr (.inl ⟨hr, HO.out, rfl, P2⟩)⟩
  obtain ⟨sg, scap, rfl⟩ := P2.form
  simp only [List.length_append, List.length_singleton] at hfew
  have hlt := latest_last B br sg scap cv lim most ini s _ P2 (by omega)
  obtain ⟨e1, k1⟩ := P2.last 1 (by omega)
  obtain ⟨e2, k2⟩ := P2.last 2 (by omega)
  obtain ⟨e3, k3⟩ := P2.last 3 (by omega)
  obtain ⟨e4, k4⟩ := P2.last 4 (by omega)
  simp only [stCells, List.getElem?_cons_succ, List.getElem?_cons_zero] at e1 e2 e3 e4
  unfold strV at e4
  have hlim := hls (by simp)
  obtain ⟨sgB, sgl⟩ := P2.sgB
  cases hr : rd.2 with
  | false =>
    rw [hr] at hag
    go_wp2_with (first | (go_at_call 39; refine hlt.mono ?_; rintro e w' ⟨rfl, rfl⟩) | (go_at_call 36; refine hag.mono ?_; rintro e w' ⟨rfl, rfl⟩))
    go_ret
    exact ⟨M2, _, cv, .inl ⟨hr, rfl, P2⟩⟩
  | true =>
    rw [hr] at hag
    have Hv : Hid _ := Hvl.out hr
    have ht0 := htm s (by simp)
    by_cases htz : s.tmo = 0
    case neg =>
      have HO : Hid (orderF ⟨lim, most, ini ++ [s]⟩ rd.1 = false) := by show _ = _; rw [Hv.out]; unfold orderF lastT; simp; omega
      have htz' : (s.tmo != 0) = true := by simpa using htz
      go_wp2_with (first | (go_at_call 39; refine hlt.mono ?_; rintro e w' ⟨rfl, rfl⟩) | (go_at_call 36; refine hag.mono ?_; rintro e w' ⟨rfl, rfl⟩))
      go_ret
      exact ⟨M2, _, cv, .inr (.inl ⟨hr, HO.out, rfl, P2⟩)⟩
    case pos =>
      have HO : Hid (orderF ⟨lim, most, ini ++ [s]⟩ rd.1 = true) := by show _ = _; rw [Hv.out]; unfold orderF lastT; simp [htz]; omega
      have HM : Hid (manyF ⟨lim, most, ini ++ [s]⟩ rd.1 = false) := by show _ = _; rw [Hv.out]; rfl
      have HT : Hid (stepF ⟨lim, most, ini ++ [s]⟩ rd.1 = ⟨lim, most, ini ++ [{ s with tmo := m1, onT := ⟨go, ex, send⟩ }]⟩) := by show _ = _; rw [Hv.out]; unfold stepF onLast; simp
      have PN := P2.tmo hbr m1 go ex send
      have MN := M2.trans (MildB.set4 (ini.length * 10 + 1) (ini.length * 10 + 2) (ini.length * 10 + 3) (ini.length * 10 + 4) (.int .i64 m1) (.int .i64 go) (.int .i64 ex) (strV send) sgB P2.cells0)
      unfold strV at PN MN
      rw [htz] at e1
      have x0 : (w1.alloc (.cells #[.int .i64 go, .int .i64 ex, .string ⟨send.toArray⟩] 38)).cell? ⟨w1.heap.size, 0, none⟩ = some (.int .i64 go) := by simp
      have x1 : (w1.alloc (.cells #[.int .i64 go, .int .i64 ex, .string ⟨send.toArray⟩] 38)).cell? ⟨w1.heap.size, 1, none⟩ = some (.int .i64 ex) := by simp
      have x2 : (w1.alloc (.cells #[.int .i64 go, .int .i64 ex, .string ⟨send.toArray⟩] 38)).cell? ⟨w1.heap.size, 2, none⟩ = some (.string ⟨send.toArray⟩) := by simp
      have hsl : ¬sg = w1.heap.size := fun e => row_ne P2.V.row (heap_alloc_new w1 _) (by decide) (by rw [e]; rfl)
      have hsl2 : ¬w1.heap.size = sg := fun e => hsl e.symm
      go_upto_region 7 with (first | (go_at_call 39; refine hlt.mono ?_; rintro e w' ⟨rfl, rfl⟩) | (go_at_call 36; refine hag.mono ?_; rintro e w' ⟨rfl, rfl⟩))
      clear hlt hag BA h2 e1 e2 e3 e4 k1 k2 k3 k4
      obtain ⟨e1, k1⟩ := P2.last 1 (by omega)
      obtain ⟨e2, k2⟩ := P2.last 2 (by omega)
      obtain ⟨e3, k3⟩ := P2.last 3 (by omega)
      obtain ⟨e4, k4⟩ := P2.last 4 (by omega)
      simp only [stCells, List.getElem?_cons_succ, List.getElem?_cons_zero] at e1 e2 e3 e4
      unfold strV at e4
      generalize w1.alloc (.cells #[.int .i64 go, .int .i64 ex, .string ⟨send.toArray⟩] 38) = W2 at *
      generalize w1.heap.size = lb at *
      have PD := PN.drew
      have MD := MN.trans (MildB.drew _)
      go_region
      all_goals
        go_wp2
        go_ret
        exact ⟨MD, _, cv, .inr (.inr (.inr ⟨hr, HO.out, HM.out, rfl, by rw [HT.out]; exact PD⟩))⟩
end Go.Proofs.YtipndbhedaknnaaDoor
