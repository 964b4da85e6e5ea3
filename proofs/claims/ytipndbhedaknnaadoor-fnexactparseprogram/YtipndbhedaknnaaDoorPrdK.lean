import Derived.Test.YtipndbhedaknnaaDoorPrdJ
namespace Go.Proofs.YtipndbhedaknnaaDoor
open Go.RowKit
attribute [local go_sem ↓] Go.wp_at_zero Go.wp_at_succ

/- THE LINES 'full' AND 'timeout'. -/
theorem full_rd (ls : List (List UInt8)) : readL ([102, 117, 108, 108] :: ls) = if ls.length = 2 then (⟨102, 0, 0, [], (actOf ls).1⟩, (actOf ls).2) else (.zero, false) := by
  unfold readL
  rw [if_neg (fun x => by have := x.1; simp at this), if_neg (fun x => by have := x.1; simp at this), if_neg (fun x => by have := x.1; simp at this), if_neg (fun x => by have := x.1; simp at this)]
  by_cases h : ls.length = 2
  · rw [if_pos h, if_pos ⟨rfl, by simp [h]⟩]
    rcases ls with _ | ⟨a, _ | ⟨b, r⟩⟩
    · cases h
    · cases h
    · rfl
  · rw [if_neg h, if_neg (fun x => h (by simpa using x.2))]
theorem act_short {ls : List (List UInt8)} (h : ls.length < 2) : (actOf ls).2 = false := by
  unfold actOf
  rcases ls with _ | ⟨a, _ | ⟨b, r⟩⟩
  · rw [actF_none (by rfl)]
  · rw [actF_none (by rfl)]
  · simp at h; omega
theorem full_good (ls : List (List UInt8)) : (readL ([102, 117, 108, 108] :: ls)).2 = (!(false || !(actOf ls).2) && decide (ls.tail.tail.length = 0)) := by
  rw [full_rd]
  rcases ls with _ | ⟨a, _ | ⟨b, _ | ⟨c, r⟩⟩⟩
  · rw [act_short (by simp)]; simp
  · rw [act_short (by simp)]; simp
  · simp
  · simp
theorem full_vals {ls : List (List UInt8)} (h : (readL ([102, 117, 108, 108] :: ls)).2 = true) : (readL ([102, 117, 108, 108] :: ls)).1 = ⟨102, 0, 0, [], actT ls⟩ := by
  rw [full_rd] at h ⊢
  by_cases h2 : ls.length = 2
  · rw [if_pos h2] at h ⊢
    rw [actT_good h]
  · rw [if_neg h2] at h
    cases h
theorem MildB.set4 {B br sg : Nat} {A : World} (j0 j1 j2 j3 : Nat) (v0 v1 v2 v3 : Value) (hsg : B ≤ sg) (hc : ∃ c t, A.heap[sg]? = some (.cells c t (0, 0))) : MildB B br A ((((A.setCell ⟨sg, j0, none⟩ v0).setCell ⟨sg, j1, none⟩ v1).setCell ⟨sg, j2, none⟩ v2).setCell ⟨sg, j3, none⟩ v3) := by
  obtain ⟨c, t, h0⟩ := hc
  have h1 := heap_setCell_same A sg j0 _ _ v0 h0
  have h2 := heap_setCell_same _ sg j1 _ _ v1 h1
  have h3 := heap_setCell_same _ sg j2 _ _ v2 h2
  exact (((MildB.setSg j0 v0 hsg ⟨_, _, _, h0⟩).trans (MildB.setSg j1 v1 hsg ⟨_, _, _, h1⟩)).trans (MildB.setSg j2 v2 hsg ⟨_, _, _, h2⟩)).trans (MildB.setSg j3 v3 hsg ⟨_, _, _, h3⟩)
theorem PrAt.cells0 {B br : Nat} {W : World} {sg cap n : Nat} {cv : Nat → Value} {p : PrD} (h : PrAt B br W (.slice (some ⟨sg, 0, none⟩) n cap) cv p) : ∃ c t, W.heap[sg]? = some (.cells c t (0, 0)) := by
  rcases h.V.row.2 with ⟨h0, _⟩ | ⟨g, cap', cur, hv, _, h2, _⟩
  · cases h0
  · cases hv
    exact ⟨_, _, h2⟩
theorem MildB.drew {B br : Nat} (A : World) : MildB B br A A.drew := ⟨rfl, rfl, rfl, Nat.le_refl _, fun _ _ _ _ => rfl⟩
theorem PrAt.drew {B br : Nat} {W : World} {sv : Value} {cv : Nat → Value} {p : PrD} (h : PrAt B br W sv cv p) : PrAt B br W.drew sv cv p := ⟨h.box, h.V.keep fun _ _ => rfl⟩
theorem PrAt.ful {B br : Nat} {W : World} {sg cap : Nat} {cv : Nat → Value} {a b : Int} {ini : List StD} {s : StD} (h : PrAt B br W (.slice (some ⟨sg, 0, none⟩) (ini.length + 1) cap) cv ⟨a, b, ini ++ [s]⟩) (hbr : br < B) (go ex : Int) (send : List UInt8) :
    PrAt B br ((((W.setCell ⟨sg, ini.length * 10 + 5, none⟩ (.bool true)).setCell ⟨sg, ini.length * 10 + 6, none⟩ (.int .i64 go)).setCell ⟨sg, ini.length * 10 + 7, none⟩ (.int .i64 ex)).setCell ⟨sg, ini.length * 10 + 8, none⟩ (strV send)) (.slice (some ⟨sg, 0, none⟩) (ini.length + 1) cap) cv ⟨a, b, ini ++ [{ s with full := true, onF := ⟨go, ex, send⟩ }]⟩ :=
  (((h.cell hbr (c := 5) (s' := { s with full := true }) (by omega) rfl rfl).cell hbr (c := 6) (s' := { s with full := true, onF := ⟨go, s.onF.ex, s.onF.send⟩ }) (by omega) rfl rfl).cell hbr (c := 7) (s' := { s with full := true, onF := ⟨go, ex, s.onF.send⟩ }) (by omega) rfl rfl).cell hbr (c := 8) (by omega) rfl rfl

set_option maxRecDepth 100000 in
set_option maxHeartbeats 4000000 in
theorem full_ok (B br b : Nat) (sv : Value) (cv : Nat → Value) (p : PrD) (ls : List (List UInt8)) (g o cap : Nat) (w : World) (h : PrAt B br w sv cv p) (hf : FldAt w b ls false g o cap) (hB : B ≤ b) (hbr : br < B) (hls : ¬p.states = [] → 0 < p.lim) (hfew : p.states.length ≤ 200) (hs1 : (ls.headD []).length ≤ 1048576) (hs2 : (ls.tail.headD []).length ≤ 1048576) :
    Calls Tryd.prog 21 #[.pointer (some ⟨br, 0, none⟩), .pointer (some ⟨b, 0, none⟩)] w (PTo B br w p (readL ([102, 117, 108, 108] :: ls))) := by
  have hne : br ≠ b := by omega
  have hblt := hf.lt
  have hac := action_ok b ls false g o cap w hf hs1 hs2
  have Hgd : Hid _ := full_good ls
  have Hvl : Hid _ := @full_vals ls
  generalize readL ([102, 117, 108, 108] :: ls) = rd at *
  obtain ⟨ac, hact⟩ : ∃ ac, actT ls = ac := ⟨_, rfl⟩
  rw [hact] at hac Hvl
  clear hact
  obtain ⟨go, ex, send⟩ := ac
  unfold actV strV at hac
  obtain ⟨lim, most, ss⟩ := p
  dsimp only at hac hls hfew
  go_enter Tryd.func21, Tryd.ntmps21
  go_wp2_with fail
  refine hac.mono ?_
  rintro e w1 ⟨rfl, hg1, g1, o1, cap1, h1⟩
  have P1 := h.field hf hne hg1
  have BA : Below w1.heap.size w1 (w1.alloc (.cells #[.int .i64 go, .int .i64 ex, .string ⟨send.toArray⟩] 38)) := (Below.refl _ w1).alloc (Nat.le_refl _) _
  have P2 := P1.below BA
  have h2 := h1.grown BA h1.glt
  have M2 : MildB B br w (w1.alloc (.cells #[.int .i64 go, .int .i64 ex, .string ⟨send.toArray⟩] 38)) := (MildB.field hf hB hg1).trans (MildB.below BA)
  have hag := allGood_ok b _ _ g1 o1 cap1 _ h2 rd.2 Hgd.out.symm
  clear hac P1
  rcases nil_or_last ss with rfl | ⟨ini, s, rfl⟩
  · have hlt := latest_nil B br sv cv lim most _ P2
    cases hr : rd.2 with
    | false =>
      rw [hr] at hag
      go_wp2_with (first | (go_at_call 39; refine hlt.mono ?_; rintro e w' ⟨rfl, rfl⟩) | (go_at_call 36; refine hag.mono ?_; rintro e w' ⟨rfl, rfl⟩))
      go_ret
      exact ⟨M2, sv, cv, .inl ⟨hr, rfl, P2⟩⟩
    | true =>
      rw [hr] at hag
      have HO : Hid (orderF ⟨lim, most, []⟩ rd.1 = false) := by show _ = _; rw [Hvl.out hr]; unfold orderF; simp
      go_wp2_with (first | (go_at_call 39; refine hlt.mono ?_; rintro e w' ⟨rfl, rfl⟩) | (go_at_call 36; refine hag.mono ?_; rintro e w' ⟨rfl, rfl⟩))
      go_ret
      exact ⟨M2, sv, cv, .inr (.inl ⟨hr, HO.out, rfl, P2⟩)⟩
  obtain ⟨sg, scap, rfl⟩ := P2.form
  simp only [List.length_append, List.length_singleton] at hfew
  have hlt := latest_last B br sg scap cv lim most ini s _ P2 (by omega)
  obtain ⟨e5, k5⟩ := P2.last 5 (by omega)
  obtain ⟨e6, k6⟩ := P2.last 6 (by omega)
  obtain ⟨e7, k7⟩ := P2.last 7 (by omega)
  obtain ⟨e8, k8⟩ := P2.last 8 (by omega)
  simp only [stCells, List.getElem?_cons_succ, List.getElem?_cons_zero] at e5 e6 e7 e8
  unfold strV at e8
  have hlim := hls (by simp)
  obtain ⟨sgB, sgl⟩ := P2.sgB
  cases hr : rd.2 with
  | false =>
    rw [hr] at hag
    go_wp2_with (first | (go_at_call 39; refine hlt.mono ?_; rintro e w' ⟨rfl, rfl⟩) | (go_at_call 36; refine hag.mono ?_; rintro e w' ⟨rfl, rfl⟩))
    go_ret
    exact ⟨M2, _, cv, .inl ⟨hr, rfl, P2⟩⟩
  | true =>
    rw [hr] at hag
    have Hv : Hid _ := Hvl.out hr
    cases hfu : s.full with
    | true =>
      have HO : Hid (orderF ⟨lim, most, ini ++ [s]⟩ rd.1 = false) := by show _ = _; rw [Hv.out]; unfold orderF lastF; simp [hfu]
      rw [hfu] at e5
      go_wp2_with (first | (go_at_call 39; refine hlt.mono ?_; rintro e w' ⟨rfl, rfl⟩) | (go_at_call 36; refine hag.mono ?_; rintro e w' ⟨rfl, rfl⟩))
      go_ret
      exact ⟨M2, _, cv, .inr (.inl ⟨hr, HO.out, rfl, P2⟩)⟩
    | false =>
      have HO : Hid (orderF ⟨lim, most, ini ++ [s]⟩ rd.1 = true) := by show _ = _; rw [Hv.out]; unfold orderF lastF; simp [hfu]; omega
      have HM : Hid (manyF ⟨lim, most, ini ++ [s]⟩ rd.1 = false) := by show _ = _; rw [Hv.out]; rfl
      have HT : Hid (stepF ⟨lim, most, ini ++ [s]⟩ rd.1 = ⟨lim, most, ini ++ [{ s with full := true, onF := ⟨go, ex, send⟩ }]⟩) := by show _ = _; rw [Hv.out]; unfold stepF onLast; simp
      have PN := P2.ful hbr go ex send
      have MN := M2.trans (MildB.set4 (ini.length * 10 + 5) (ini.length * 10 + 6) (ini.length * 10 + 7) (ini.length * 10 + 8) (.bool true) (.int .i64 go) (.int .i64 ex) (strV send) sgB P2.cells0)
      unfold strV at PN MN
      rw [hfu] at e5
      have x0 : (w1.alloc (.cells #[.int .i64 go, .int .i64 ex, .string ⟨send.toArray⟩] 38)).cell? ⟨w1.heap.size, 0, none⟩ = some (.int .i64 go) := by simp
      have x1 : (w1.alloc (.cells #[.int .i64 go, .int .i64 ex, .string ⟨send.toArray⟩] 38)).cell? ⟨w1.heap.size, 1, none⟩ = some (.int .i64 ex) := by simp
      have x2 : (w1.alloc (.cells #[.int .i64 go, .int .i64 ex, .string ⟨send.toArray⟩] 38)).cell? ⟨w1.heap.size, 2, none⟩ = some (.string ⟨send.toArray⟩) := by simp
      go_upto_region 7 with (first | (go_at_call 39; refine hlt.mono ?_; rintro e w' ⟨rfl, rfl⟩) | (go_at_call 36; refine hag.mono ?_; rintro e w' ⟨rfl, rfl⟩))
      clear hlt hag BA h2 e5 e6 e7 e8 k5 k6 k7 k8
      obtain ⟨e5, k5⟩ := P2.last 5 (by omega)
      obtain ⟨e6, k6⟩ := P2.last 6 (by omega)
      obtain ⟨e7, k7⟩ := P2.last 7 (by omega)
      obtain ⟨e8, k8⟩ := P2.last 8 (by omega)
      simp only [stCells, List.getElem?_cons_succ, List.getElem?_cons_zero] at e5 e6 e7 e8
      unfold strV at e8
      generalize w1.alloc (.cells #[.int .i64 go, .int .i64 ex, .string ⟨send.toArray⟩] 38) = W2 at *
      generalize w1.heap.size = lb at *
      have PD := PN.drew
      have MD := MN.trans (MildB.drew _)
      go_region
      all_goals
        go_wp2
        go_ret
        exact ⟨MD, _, cv, .inr (.inr (.inr ⟨hr, HO.out, HM.out, rfl, by rw [HT.out]; exact PD⟩))⟩
end Go.Proofs.YtipndbhedaknnaaDoor
