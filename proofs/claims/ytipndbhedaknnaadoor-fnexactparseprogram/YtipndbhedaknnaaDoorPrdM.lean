import Derived.Test.YtipndbhedaknnaaDoorPrdL
namespace Go.Proofs.YtipndbhedaknnaaDoor
open Go.RowKit
attribute [local go_sem ↓] Go.wp_at_zero Go.wp_at_succ
attribute [local go_sem ↓] append_appC

theorem on_rd (ls : List (List UInt8)) : readL ([111, 110] :: ls) = if ls.length = 3 then (⟨111, 0, 0, optL (wordOf ls), (actOf ls.tail).1⟩, (wordOf ls).isSome && (actOf ls.tail).2) else (.zero, false) := by
  unfold readL wordOf
  rw [if_neg (fun x => by have := x.1; simp at this), if_neg (fun x => by have := x.1; simp at this)]
  by_cases h : ls.length = 3
  · rw [if_pos h, if_pos ⟨rfl, by simp [h]⟩]
    rcases ls with _ | ⟨a, _ | ⟨b, _ | ⟨c, r⟩⟩⟩
    · cases h
    · cases h
    · cases h
    · rfl
  · rw [if_neg h, if_neg (fun x => h (by simpa using x.2)), if_neg (fun x => by have := x.1; simp at this), if_neg (fun x => by have := x.1; simp at this)]
theorem on_good (ls : List (List UInt8)) : (readL ([111, 110] :: ls)).2 = (!((false || !(wordOf ls).isSome) || !(actOf ls.tail).2) && decide (ls.tail.tail.tail.length = 0)) := by
  rw [on_rd]
  rcases ls with _ | ⟨a, _ | ⟨b, _ | ⟨c, _ | ⟨d, r⟩⟩⟩⟩
  · rw [act_short (by simp)]; simp
  · rw [act_short (by simp)]; simp
  · rw [act_short (by simp)]; simp
  · simp
  · simp
theorem on_vals {ls : List (List UInt8)} (h : (readL ([111, 110] :: ls)).2 = true) : (readL ([111, 110] :: ls)).1 = ⟨111, 0, 0, optL (wordOf ls), actT ls.tail⟩ := by
  rw [on_rd] at h ⊢
  by_cases h2 : ls.length = 3
  · rw [if_pos h2] at h ⊢
    simp only [Bool.and_eq_true] at h
    rw [actT_good h.2]
  · rw [if_neg h2] at h
    cases h
theorem row_formP {w : World} {base n : Nat} {e : TypeId} {sz : Nat} {v : Value} {xs : List Value} (h : w.ownsRow base e sz v n xs) : ∃ a c, v = .slice a n c := by
  rcases h.2 with ⟨rfl, rfl⟩ | ⟨g, cap, _, rfl, _⟩
  · exact ⟨none, 0, rfl⟩
  · exact ⟨_, _, rfl⟩
theorem PrAt.cs {B br : Nat} {W : World} {sv : Value} {cv : Nat → Value} {a b : Int} {ini : List StD} {s : StD} (h : PrAt B br W sv cv ⟨a, b, ini ++ [s]⟩) : W.ownsRow B 47 4 (cv ini.length) s.cases.length (csCells s.cases) ∧ ∃ ao c, cv ini.length = .slice ao s.cases.length c := by
  have hk := h.V.cas ini.length (by simp)
  rcases getLast_at ini s ini.length (by simp) with ⟨e3, _⟩ | ⟨_, e2⟩
  · omega
  · simp only at hk
    rw [e2] at hk
    exact ⟨hk, row_formP hk⟩
theorem PrAt.case {B br : Nat} {W W' : World} {sg cap : Nat} {cv : Nat → Value} {a b : Int} {ini : List StD} {s : StD} (h : PrAt B br W (.slice (some ⟨sg, 0, none⟩) (ini.length + 1) cap) cv ⟨a, b, ini ++ [s]⟩) (hbr : br < B) {c : CaseD} {g' cap' : Nat}
    (own : W'.ownsRow B 47 4 (.slice (some ⟨g', 0, none⟩) (s.cases.length + 1) cap') (s.cases.length + 1) (csCells s.cases ++ csCells [c])) (gr : W.grownBy W' (cv ini.length).ownBlock) (hat : (cv ini.length).ownBlock = some g' ∨ W.heap.size ≤ g') :
    PrAt B br (W'.setCell ⟨sg, ini.length * 10, none⟩ (.slice (some ⟨g', 0, none⟩) (s.cases.length + 1) cap')) (.slice (some ⟨sg, 0, none⟩) (ini.length + 1) cap) (updV cv ini.length (.slice (some ⟨g', 0, none⟩) (s.cases.length + 1) cap')) ⟨a, b, ini ++ [{ s with cases := s.cases ++ [c] }]⟩ := by
  have hb' : W'.heap[br]? = W.heap[br]? := gr.block br (Array.getElem?_eq_some_iff.1 h.box).1 (fun e => by have := (h.V.lt (.inr ⟨ini.length, by simp, e.symm⟩)).1; omega)
  exact ⟨(Below.heap_setCell _ _ _ _ (by have := h.sgB.1; show br ≠ sg; omega)).trans (hb'.trans h.box), h.V.case own gr hat⟩
theorem MildB.grow {B br : Nat} {A A' : World} {e : TypeId} {sz n : Nat} {v : Value} {xs : List Value} (h : A.ownsRow B e sz v n xs) (hg : A.grownBy A' v.ownBlock) : MildB B br A A' :=
  ⟨hg.os, hg.tape, hg.output, hg.size, fun i hi _ h2 => hg.block i hi (fun e => by
    rcases h.2 with ⟨rfl, _⟩ | ⟨g, cap, cur, rfl, h1, h3, _⟩
    · cases e
    · obtain rfl : i = g := by simpa [Value.ownBlock] using e
      have := h2 h1 _ h3
      cases this)⟩

set_option maxRecDepth 100000 in
set_option maxHeartbeats 4000000 in
theorem on_ok (B br b : Nat) (sv : Value) (cv : Nat → Value) (p : PrD) (ls : List (List UInt8)) (g o cap : Nat) (w : World) (h : PrAt B br w sv cv p) (hf : FldAt w b ls false g o cap) (hB : B ≤ b) (hbr : br < B) (hls : ¬p.states = [] → 0 < p.lim) (hfew : p.states.length ≤ 200) (hs1 : (ls.headD []).length ≤ 1048576) (hs2 : (ls.tail.headD []).length ≤ 1048576) (hs3 : (ls.tail.tail.headD []).length ≤ 1048576) (hfc : ∀ s ∈ p.states, s.cases.length ≤ 100) :
    Calls Tryd.prog 19 #[.pointer (some ⟨br, 0, none⟩), .pointer (some ⟨b, 0, none⟩)] w (PTo B br w p (readL ([111, 110] :: ls))) := by
  have hne : br ≠ b := by omega
  have hblt := hf.lt
  have hn1 := word_ok b ls false g o cap w hf hs1
  have hac := fun W f g1 o1 cap1 (hh : FldAt W b ls.tail f g1 o1 cap1) => action_ok b ls.tail f g1 o1 cap1 W hh hs2 hs3
  obtain ⟨pat, hm1⟩ : ∃ pat, optL (wordOf ls) = pat := ⟨_, rfl⟩
  rw [hm1] at hn1
  have Hgd : Hid _ := on_good ls
  have Hvl : Hid _ := @on_vals ls
  generalize readL ([111, 110] :: ls) = rd at *
  obtain ⟨ac, hact⟩ : ∃ ac, actT ls.tail = ac := ⟨_, rfl⟩
  rw [hact] at hac Hvl
  rw [hm1] at Hvl
  clear hact hm1
  obtain ⟨go, ex, send⟩ := ac
  unfold actV at hac
  unfold strV at hac hn1
  obtain ⟨lim, most, ss⟩ := p
  dsimp only at hac hls hfew hfc
  go_enter Tryd.func19, Tryd.ntmps19
  go_wp2_with fail
  refine hn1.mono ?_
  rintro e w0 ⟨rfl, hg0, g0, o0, cap0, h0⟩
  go_wp2_with fail
  refine (hac _ _ _ _ _ h0).mono ?_
  rintro e w1 ⟨rfl, hg1, g1, o1, cap1, h1⟩
  have P0 := h.field hf hne hg0
  have P1 := P0.field h0 hne hg1
  have BA : Below w1.heap.size w1 (w1.alloc (.cells #[.int .i64 go, .int .i64 ex, .string ⟨send.toArray⟩] 38)) := (Below.refl _ w1).alloc (Nat.le_refl _) _
  have P2 := P1.below BA
  have h2 := h1.grown BA h1.glt
  have M2 : MildB B br w (w1.alloc (.cells #[.int .i64 go, .int .i64 ex, .string ⟨send.toArray⟩] 38)) := ((MildB.field hf hB hg0).trans (MildB.field h0 hB hg1)).trans (MildB.below BA)
  have hag := allGood_ok b _ _ g1 o1 cap1 _ h2 rd.2 Hgd.out.symm
  clear hac P1 P0 hn1
  rcases nil_or_last ss with rfl | ⟨ini, s, rfl⟩
  · have hlt := latest_nil B br sv cv lim most _ P2
    cases hr : rd.2 with
    | false =>
      rw [hr] at hag
      go_wp2_with (first | (go_at_call 39; refine hlt.mono ?_; rintro e w' ⟨rfl, rfl⟩) | (go_at_call 36; refine hag.mono ?_; rintro e w' ⟨rfl, rfl⟩))
      go_ret
      exact ⟨M2, sv, cv, .inl ⟨hr, rfl, P2⟩⟩
    | true =>
      rw [hr] at hag
      have HO : Hid (orderF ⟨lim, most, []⟩ rd.1 = false) := by show _ = _; rw [Hvl.out hr]; unfold orderF; simp
      go_wp2_with (first | (go_at_call 39; refine hlt.mono ?_; rintro e w' ⟨rfl, rfl⟩) | (go_at_call 36; refine hag.mono ?_; rintro e w' ⟨rfl, rfl⟩))
      go_ret
      exact ⟨M2, sv, cv, .inr (.inl ⟨hr, HO.out, rfl, P2⟩)⟩
  obtain ⟨sg, scap, rfl⟩ := P2.form
  simp only [List.length_append, List.length_singleton] at hfew
  have hlt := latest_last B br sg scap cv lim most ini s _ P2 (by omega)
  obtain ⟨e0, k0⟩ := P2.last 0 (by omega)
  obtain ⟨hcs, ca, cc, hcv⟩ := P2.cs
  simp only [stCells, List.getElem?_cons_zero, Nat.add_zero] at e0
  rw [Nat.add_zero] at k0
  rw [hcv] at e0
  have hfc1 := hfc s (by simp)
  have hlim := hls (by simp)
  obtain ⟨sgB, sgl⟩ := P2.sgB
  cases hr : rd.2 with
  | false =>
    rw [hr] at hag
    go_wp2_with (first | (go_at_call 39; refine hlt.mono ?_; rintro e w' ⟨rfl, rfl⟩) | (go_at_call 36; refine hag.mono ?_; rintro e w' ⟨rfl, rfl⟩))
    go_ret
    exact ⟨M2, _, cv, .inl ⟨hr, rfl, P2⟩⟩
  | true =>
    rw [hr] at hag
    have Hv : Hid _ := Hvl.out hr
    have HO : Hid (orderF ⟨lim, most, ini ++ [s]⟩ rd.1 = true) := by show _ = _; rw [Hv.out]; unfold orderF; simp; omega
    by_cases h100 : s.cases.length = 100
    case pos =>
      have HM : Hid (manyF ⟨lim, most, ini ++ [s]⟩ rd.1 = true) := by show _ = _; rw [Hv.out]; unfold manyF lastC; simp [h100]
      rw [h100] at e0
      go_wp2_with (first | (go_at_call 39; refine hlt.mono ?_; rintro e w' ⟨rfl, rfl⟩) | (go_at_call 36; refine hag.mono ?_; rintro e w' ⟨rfl, rfl⟩))
      go_ret
      exact ⟨M2, _, cv, .inr (.inr (.inl ⟨hr, HO.out, HM.out, rfl, P2⟩))⟩
    have HM : Hid (manyF ⟨lim, most, ini ++ [s]⟩ rd.1 = false) := by show _ = _; rw [Hv.out]; unfold manyF lastC; simp [h100]
    have HT : Hid (stepF ⟨lim, most, ini ++ [s]⟩ rd.1 = ⟨lim, most, ini ++ [{ s with cases := s.cases ++ [⟨pat, ⟨go, ex, send⟩⟩] }]⟩) := by show _ = _; rw [Hv.out]; unfold stepF onLast; simp
    have h100' : ((s.cases.length : Int) == 100) = false := by simp; omega
    have x0 : (w1.alloc (.cells #[.int .i64 go, .int .i64 ex, .string ⟨send.toArray⟩] 38)).cell? ⟨w1.heap.size, 0, none⟩ = some (.int .i64 go) := by simp
    have x1 : (w1.alloc (.cells #[.int .i64 go, .int .i64 ex, .string ⟨send.toArray⟩] 38)).cell? ⟨w1.heap.size, 1, none⟩ = some (.int .i64 ex) := by simp
    have x2 : (w1.alloc (.cells #[.int .i64 go, .int .i64 ex, .string ⟨send.toArray⟩] 38)).cell? ⟨w1.heap.size, 2, none⟩ = some (.string ⟨send.toArray⟩) := by simp
    have xl : w1.heap.size < (w1.alloc (.cells #[.int .i64 go, .int .i64 ex, .string ⟨send.toArray⟩] 38)).heap.size := by simp
    have hwB : B ≤ (w1.alloc (.cells #[.int .i64 go, .int .i64 ex, .string ⟨send.toArray⟩] 38)).heap.size := by have := P2.sgB; omega
    go_upto_region 9 with (first | (go_at_call 39; refine hlt.mono ?_; rintro e w' ⟨rfl, rfl⟩) | (go_at_call 36; refine hag.mono ?_; rintro e w' ⟨rfl, rfl⟩))
    clear hlt hag BA h2
    generalize w1.alloc (.cells #[.int .i64 go, .int .i64 ex, .string ⟨send.toArray⟩] 38) = W2 at *
    generalize w1.heap.size = lb at *
    rw [hcv] at hcs
    obtain ⟨i0, hi, hz0, hz1, hz2⟩ := info_parts Tryd.infoCase
    obtain ⟨g9, cap9, w9, hap9, own9, grow9, at9⟩ := appC_run (P := Tryd.prog) 43 W2 #[.string ⟨pat.toArray⟩, .int .i64 go, .int .i64 ex, .string ⟨send.toArray⟩] 47 43 B i0 _ 4 48 Tryd.underlying43 hi hz0 hz1 hz2 rfl (by omega) _ s.cases.length (csCells s.cases) hcs rfl (by simp [Value.oneCell']) (by omega) (by omega) hwB
    have sk9 : w9.heap[sg]? = W2.heap[sg]? := grow9.block sg sgl (fun e => (P2.V.apart ini.length (by simp) sg (by rw [hcv]; exact e.symm)).1 rfl)
    have q0 := (World.cell?_of_block (a := ⟨sg, ini.length * 10, none⟩) sk9).trans e0
    have qf := (World.frozen?_of_block (a := ⟨sg, ini.length * 10, none⟩) sk9).trans k0
    have PN : Hid _ := P2.case hbr (c := ⟨pat, ⟨go, ex, send⟩⟩) own9 (by rw [hcv]; exact grow9) (by rw [hcv]; exact at9)
    obtain ⟨c9, t9, hc9⟩ := P2.cells0
    have MN : Hid _ := (M2.trans (MildB.grow (br := br) hcs grow9)).trans (MildB.setSg (br := br) (ini.length * 10) (.slice (some ⟨g9, 0, none⟩) (s.cases.length + 1) cap9) sgB ⟨_, _, _, sk9.trans hc9⟩)
    clear own9 grow9 at9 sk9 hcs hc9
    go_region
    all_goals
      go_wp2
      go_ret
      exact ⟨MN.out, _, _, .inr (.inr (.inr ⟨hr, HO.out, HM.out, rfl, by rw [HT.out]; exact PN.out⟩))⟩
end Go.Proofs.YtipndbhedaknnaaDoor
