import Derived.Test.YtipndbhedaknnaaDoorNumI
import Derived.Test.YtipndbhedaknnaaDoorAct
namespace Go.Proofs.YtipndbhedaknnaaDoor
open Go.RowKit
attribute [local go_sem ↓] Go.wp_at_zero Go.wp_at_succ

/- THE CODE's READING OF ACTIONS. -/
def actOf (ls : List (List UInt8)) : ActD × Bool := actF (ls.headD []) (ls.tail.headD [])
/-- What the code makes of an action. -/
def actT (ls : List (List UInt8)) : ActD := if isX (ls.headD []) then ⟨-1, natOf (numF ((ls.headD []).drop 1)), optL (wordOf ls.tail)⟩ else ⟨natOf (numF (ls.headD [])), 0, optL (wordOf ls.tail)⟩
theorem actT_good {ls : List (List UInt8)} (h : (actOf ls).2 = true) : actT ls = (actOf ls).1 := by
  unfold actOf at h ⊢
  unfold actT wordOf
  cases hw : wordF (ls.tail.headD []) with
  | none => rw [actF_none hw] at h; cases h
  | some send =>
    cases hx : isX (ls.headD [])
    · rw [if_neg (by simp), actF_n hw hx]
      rw [actF_n hw hx] at h
      have : natOf (numF (ls.headD [])) = numF (ls.headD []) := by unfold natOf; rw [if_pos (by simpa using h)]
      rw [this]; rfl
    · rw [if_pos rfl, actF_x hw hx]
      rw [actF_x hw hx] at h
      have : natOf (numF ((ls.headD []).drop 1)) = numF ((ls.headD []).drop 1) := natOf_in (Int.le_refl _) h
      rw [this]; rfl
/-- The target's own fault. -/
def tgBad (ls : List (List UInt8)) : Bool := if isX (ls.headD []) then !btw (numF ((ls.headD []).drop 1)) 0 255 else !decide (0 ≤ numF (ls.headD []))
theorem actOf_bad (ls : List (List UInt8)) : (!(actOf ls).2) = (tgBad ls || !(wordOf ls.tail).isSome) := by
  unfold actOf tgBad wordOf
  cases hw : wordF (ls.tail.headD []) with
  | none => rw [actF_none hw]; simp
  | some send =>
    cases hx : isX (ls.headD [])
    · rw [actF_n hw hx]; simp
    · rw [actF_x hw hx]; simp
theorem tgBad_nil {ls : List (List UInt8)} (h : ls.length = 0) : tgBad ls = true := by
  have : ls = [] := List.eq_nil_of_length_eq_zero h
  subst this
  decide
theorem act_end {w w3 : World} {b : Nat} {ls : List (List UInt8)} {f : Bool} {g o cap : Nat} (h : FldAt w3 b ls f g o cap) (hb : b < w.heap.size) (hg : w.grownBy w3 (some b)) (x y z : Value) :
    FldTo w b ls f (((w3.setCell ⟨w.heap.size, 0, none⟩ x).setCell ⟨w.heap.size, 1, none⟩ y).setCell ⟨w.heap.size, 2, none⟩ z) := by
  have hk : ∀ k, k < w.heap.size → (((w3.setCell ⟨w.heap.size, 0, none⟩ x).setCell ⟨w.heap.size, 1, none⟩ y).setCell ⟨w.heap.size, 2, none⟩ z).heap[k]? = w3.heap[k]? := fun k hk => by
    rw [Below.heap_setCell _ _ _ _ (by show k ≠ w.heap.size; omega), Below.heap_setCell _ _ _ _ (by show k ≠ w.heap.size; omega), Below.heap_setCell _ _ _ _ (by show k ≠ w.heap.size; omega)]
  have hgb := h.ne
  refine ⟨⟨hg.os, hg.tape, hg.output, by simp; exact hg.size, fun k h1 h2 => (hk k h1).trans (hg.block k h1 h2)⟩, g, o, cap, (hk b hb).trans h.box, fun j hj => ?_, h.ne, h.room, h.max⟩
  exact (World.cell?_of_block (a := ⟨g, o + j, none⟩) (hk g (by omega))).trans (h.row j hj)
theorem bytes_eqL {a : ByteArray} {l : List UInt8} (h : a.data.toList = l) : a = ⟨l.toArray⟩ := by subst h; cases a; simp
theorem res_keep {w1 w2 : World} {b ra : Nat} {o : Obj} (h : w1.grownBy w2 (some b)) (hne : ra ≠ b) (hr : w1.heap[ra]? = some o) : w2.heap[ra]? = some o :=
  (h.block ra (Array.getElem?_eq_some_iff.1 hr).1 (by simpa using hne)).trans hr

set_option maxRecDepth 100000 in
set_option maxHeartbeats 4000000 in
theorem action_ok (b : Nat) (ls : List (List UInt8)) (bad : Bool) (g o cap : Nat) (w : World) (h : FldAt w b ls bad g o cap) (hs1 : (ls.headD []).length ≤ 1048576) (hs2 : (ls.tail.headD []).length ≤ 1048576) :
    Calls Tryd.prog 38 #[.pointer (some ⟨b, 0, none⟩)] w fun e w' => e = .returned (actV (actT ls)) ∧ FldTo w b ls.tail.tail (bad || !(actOf ls).2) w' := by
  have hblt := h.lt
  have hnx := next_ok b ls bad g o cap (w.alloc (.cells #[.int .i64 0, .int .i64 0, .string ⟨#[]⟩] 38)) (h.grown ((Below.refl _ w).alloc (Nat.le_refl _) _) h.glt)
  obtain ⟨tg, htg⟩ : ∃ tg, ls.headD [] = tg := ⟨_, rfl⟩
  have hcp := cutPrefix_ok ⟨tg.toArray⟩ 120
  have hX := isX_at ⟨tg.toArray⟩
  have hF : (bad || !(actOf ls).2) = ((bad || tgBad ls) || !(wordOf ls.tail).isSome) := by rw [actOf_bad, Bool.or_assoc]
  have hT : actT ls = if isX tg then ⟨-1, natOf (numF (tg.drop 1)), optL (wordOf ls.tail)⟩ else ⟨natOf (numF tg), 0, optL (wordOf ls.tail)⟩ := by unfold actT; rw [htg]
  have hG : tgBad ls = if isX tg then !btw (numF (tg.drop 1)) 0 255 else !decide (0 ≤ numF tg) := by unfold tgBad; rw [htg]
  have hz : ls.length = 0 → tgBad ls = true := tgBad_nil
  rw [htg] at hnx hs1
  have hwd := fun W f g1 o1 cap1 (hf : FldAt W b ls.tail f g1 o1 cap1) => word_ok b ls.tail f g1 o1 cap1 W hf hs2
  obtain ⟨tpl, htpl⟩ : ∃ tpl, optL (wordOf ls.tail) = tpl := ⟨_, rfl⟩
  rw [htpl] at hT hwd
  rw [hF]
  clear hF htpl
  have hrn : ∀ (d : List UInt8) (W : World), d.length ≤ 1048576 → Calls Tryd.prog 48 #[.string ⟨d.toArray⟩] W fun e w' => e = .returned (.tuple #[.int .i64 (natOf (numF d)), .bool (decide (0 ≤ numF d))]) ∧ w' = W := fun d W hd => readNumber_ok ⟨d.toArray⟩ W (by show d.toArray.size ≤ _; simpa using hd)
  cases hx : isX tg with
  | false =>
    rw [hx, if_neg (by simp)] at hT hG
    have hc : cpF 120 ⟨tg.toArray⟩ = (⟨tg.toArray⟩, false) := by
      have : ¬atF ⟨tg.toArray⟩ 0 = 120 := by
        have e : isX (⟨tg.toArray⟩ : ByteArray).data.toList = false := hx
        rw [hX] at e
        simpa using e
      exact if_neg this
    rw [hc] at hcp
    have hrd := fun W => hrn tg W hs1
    clear hrn hX hc hx
    rw [hT]
    obtain ⟨n, hn⟩ : ∃ n, numF tg = n := ⟨_, rfl⟩
    rw [hn] at hrd hG ⊢
    obtain ⟨m, hm⟩ : ∃ m, natOf n = m := ⟨_, rfl⟩
    rw [hm] at hrd ⊢
    clear hn hT
    cases hok : decide (0 ≤ n) with
    | false =>
      rw [hok] at hrd hG
      rw [hG]
      clear hok hm hG hz
      go_enter Tryd.func38, Tryd.ntmps38
      go_wp2_with fail
      refine hnx.mono ?_
      rintro e w1 ⟨rfl, hg1, g1, o1, cap1, h1⟩
      have r1 := res_keep hg1 (by omega) (World.alloc_heap_new w _)
      unfold strV
      go_wp2_with fail
      refine (hcp w1).mono ?_
      rintro e w2 ⟨rfl, hw2⟩
      subst w2
      go_wp2_with fail
      refine (hrd w1).mono ?_
      rintro e w2 ⟨rfl, hw2⟩
      subst w2
      have c1 := h1.c1
      have f1 := h1.f 1
      go_wp2_with fail
      have h2 := h1.setBad true
      have hg2 := hg1.trans (grown_set w1 b 1 (.bool true))
      have r2 := res_keep (grown_set w1 b 1 (.bool true)) (by omega) r1
      generalize w1.setCell ⟨b, 1, none⟩ (.bool true) = w2 at *
      refine (hwd _ _ _ _ _ h2).mono ?_
      rintro e w3 ⟨rfl, hg3, g3, o3, cap3, h3⟩
      have r3 := res_keep hg3 (by omega) r2
      have e0 : w3.cell? ⟨w.heap.size, 0, none⟩ = some (.int .i64 0) := by simp [World.cell?, r3]
      have e1 : w3.cell? ⟨w.heap.size, 1, none⟩ = some (.int .i64 0) := by simp [World.cell?, r3]
      have e2 : w3.cell? ⟨w.heap.size, 2, none⟩ = some (.string ⟨#[]⟩) := by simp [World.cell?, r3]
      have k0 : w3.frozen? ⟨w.heap.size, 0, none⟩ = false := by simp [World.frozen?, r3]
      have k1 : w3.frozen? ⟨w.heap.size, 1, none⟩ = false := by simp [World.frozen?, r3]
      have k2 : w3.frozen? ⟨w.heap.size, 2, none⟩ = false := by simp [World.frozen?, r3]
      unfold strV
      go_wp2
      exact bodyPost_ret (v := actV ⟨m, 0, tpl⟩) (by simp [results, Tryd.results38, go_sem, actV, strV, e0, e1, e2]) rfl ⟨rfl, act_end (by simpa using h3) hblt (((World.grownBy_alloc w _ (some b)).trans hg2).trans hg3) _ _ _⟩
    | true =>
      rw [hok] at hrd hG
      have hz' : decide (ls.length = 0) = false := by
        simp only [decide_eq_false_iff_not]
        intro h0
        have := hz h0
        rw [hG] at this
        cases this
      rw [hz'] at hnx
      rw [hG]
      clear hok hm hG hz hz'
      go_enter Tryd.func38, Tryd.ntmps38
      go_wp2_with fail
      refine hnx.mono ?_
      rintro e w1 ⟨rfl, hg1, g1, o1, cap1, h1⟩
      have r1 := res_keep hg1 (by omega) (World.alloc_heap_new w _)
      unfold strV
      go_wp2_with fail
      refine (hcp w1).mono ?_
      rintro e w2 ⟨rfl, hw2⟩
      subst w2
      go_wp2_with fail
      refine (hrd w1).mono ?_
      rintro e w2 ⟨rfl, hw2⟩
      subst w2
      go_wp2_with fail
      have h2 := h1
      have hg2 := hg1
      have r2 := r1
      generalize hw12 : w1 = w2 at *
      clear hw12
      refine (hwd _ _ _ _ _ h2).mono ?_
      rintro e w3 ⟨rfl, hg3, g3, o3, cap3, h3⟩
      have r3 := res_keep hg3 (by omega) r2
      have e0 : w3.cell? ⟨w.heap.size, 0, none⟩ = some (.int .i64 0) := by simp [World.cell?, r3]
      have e1 : w3.cell? ⟨w.heap.size, 1, none⟩ = some (.int .i64 0) := by simp [World.cell?, r3]
      have e2 : w3.cell? ⟨w.heap.size, 2, none⟩ = some (.string ⟨#[]⟩) := by simp [World.cell?, r3]
      have k0 : w3.frozen? ⟨w.heap.size, 0, none⟩ = false := by simp [World.frozen?, r3]
      have k1 : w3.frozen? ⟨w.heap.size, 1, none⟩ = false := by simp [World.frozen?, r3]
      have k2 : w3.frozen? ⟨w.heap.size, 2, none⟩ = false := by simp [World.frozen?, r3]
      unfold strV
      go_wp2
      exact bodyPost_ret (v := actV ⟨m, 0, tpl⟩) (by simp [results, Tryd.results38, go_sem, actV, strV, e0, e1, e2]) rfl ⟨rfl, act_end (by simpa using h3) hblt (((World.grownBy_alloc w _ (some b)).trans hg2).trans hg3) _ _ _⟩
  | true =>
    rw [hx, if_pos rfl] at hT hG
    have hc : cpF 120 ⟨tg.toArray⟩ = (⟨(tg.drop 1).toArray⟩, true) := by
      have : atF ⟨tg.toArray⟩ 0 = 120 := by
        have e : isX (⟨tg.toArray⟩ : ByteArray).data.toList = true := hx
        rw [hX] at e
        simpa using e
      have e2 : (⟨tg.toArray⟩ : ByteArray).extract 1 (⟨tg.toArray⟩ : ByteArray).size = ⟨(tg.drop 1).toArray⟩ := bytes_eqL (ext_one ⟨tg.toArray⟩)
      exact (if_pos this).trans (by rw [e2])
    rw [hc] at hcp
    have hrd := fun W => hrn (tg.drop 1) W (by simp; omega)
    clear hrn hX hc hx
    rw [hT]
    obtain ⟨n, hn⟩ : ∃ n, numF (tg.drop 1) = n := ⟨_, rfl⟩
    rw [hn] at hrd hG ⊢
    obtain ⟨dg, hdg⟩ : ∃ dg, tg.drop 1 = dg := ⟨_, rfl⟩
    rw [hdg] at hrd hcp
    clear hn hT hdg
    by_cases h0 : 0 ≤ n
    case neg =>
      have hf : btw n 0 255 = false := by unfold btw; simp; omega
      obtain ⟨m, hm⟩ : ∃ m, natOf n = m := ⟨_, rfl⟩
      rw [hm, decide_eq_false h0] at hrd
      rw [hm, hG, hf]
      clear hm hG hz hf h0
      go_enter Tryd.func38, Tryd.ntmps38
      go_wp2_with fail
      refine hnx.mono ?_
      rintro e w1 ⟨rfl, hg1, g1, o1, cap1, h1⟩
      have r1 := res_keep hg1 (by omega) (World.alloc_heap_new w _)
      unfold strV
      go_wp2_with fail
      refine (hcp w1).mono ?_
      rintro e w2 ⟨rfl, hw2⟩
      subst w2
      go_wp2_with fail
      refine (hrd w1).mono ?_
      rintro e w2 ⟨rfl, hw2⟩
      subst w2
      have c1 := h1.c1
      have f1 := h1.f 1
      go_wp2_with fail
      have h2 := h1.setBad true
      have hg2 := hg1.trans (grown_set w1 b 1 (.bool true))
      have r2 := res_keep (grown_set w1 b 1 (.bool true)) (by omega) r1
      generalize w1.setCell ⟨b, 1, none⟩ (.bool true) = w2 at *
      refine (hwd _ _ _ _ _ h2).mono ?_
      rintro e w3 ⟨rfl, hg3, g3, o3, cap3, h3⟩
      have r3 := res_keep hg3 (by omega) r2
      have e0 : w3.cell? ⟨w.heap.size, 0, none⟩ = some (.int .i64 0) := by simp [World.cell?, r3]
      have e1 : w3.cell? ⟨w.heap.size, 1, none⟩ = some (.int .i64 0) := by simp [World.cell?, r3]
      have e2 : w3.cell? ⟨w.heap.size, 2, none⟩ = some (.string ⟨#[]⟩) := by simp [World.cell?, r3]
      have k0 : w3.frozen? ⟨w.heap.size, 0, none⟩ = false := by simp [World.frozen?, r3]
      have k1 : w3.frozen? ⟨w.heap.size, 1, none⟩ = false := by simp [World.frozen?, r3]
      have k2 : w3.frozen? ⟨w.heap.size, 2, none⟩ = false := by simp [World.frozen?, r3]
      unfold strV
      go_wp2
      exact bodyPost_ret (v := actV ⟨-1, m, tpl⟩) (by simp [results, Tryd.results38, go_sem, actV, strV, e0, e1, e2]) rfl ⟨rfl, act_end (by simpa using h3) hblt (((World.grownBy_alloc w _ (some b)).trans hg2).trans hg3) _ _ _⟩
    have hm : natOf n = n := by unfold natOf; rw [if_pos h0]
    rw [hm, decide_eq_true h0] at hrd
    rw [hm]
    by_cases h2 : n ≤ 255
    case neg =>
      have hf : btw n 0 255 = false := by unfold btw; simp; omega
      rw [hG, hf]
      clear hm hG hz hf
      obtain ⟨m, rfl⟩ : ∃ m, m = n := ⟨_, rfl⟩
      go_enter Tryd.func38, Tryd.ntmps38
      go_wp2_with fail
      refine hnx.mono ?_
      rintro e w1 ⟨rfl, hg1, g1, o1, cap1, h1⟩
      have r1 := res_keep hg1 (by omega) (World.alloc_heap_new w _)
      unfold strV
      go_wp2_with fail
      refine (hcp w1).mono ?_
      rintro e w2 ⟨rfl, hw2⟩
      subst w2
      go_wp2_with fail
      refine (hrd w1).mono ?_
      rintro e w2 ⟨rfl, hw2⟩
      subst w2
      have c1 := h1.c1
      have f1 := h1.f 1
      go_wp2_with fail
      have h2 := h1.setBad true
      have hg2 := hg1.trans (grown_set w1 b 1 (.bool true))
      have r2 := res_keep (grown_set w1 b 1 (.bool true)) (by omega) r1
      generalize w1.setCell ⟨b, 1, none⟩ (.bool true) = w2 at *
      refine (hwd _ _ _ _ _ h2).mono ?_
      rintro e w3 ⟨rfl, hg3, g3, o3, cap3, h3⟩
      have r3 := res_keep hg3 (by omega) r2
      have e0 : w3.cell? ⟨w.heap.size, 0, none⟩ = some (.int .i64 0) := by simp [World.cell?, r3]
      have e1 : w3.cell? ⟨w.heap.size, 1, none⟩ = some (.int .i64 0) := by simp [World.cell?, r3]
      have e2 : w3.cell? ⟨w.heap.size, 2, none⟩ = some (.string ⟨#[]⟩) := by simp [World.cell?, r3]
      have k0 : w3.frozen? ⟨w.heap.size, 0, none⟩ = false := by simp [World.frozen?, r3]
      have k1 : w3.frozen? ⟨w.heap.size, 1, none⟩ = false := by simp [World.frozen?, r3]
      have k2 : w3.frozen? ⟨w.heap.size, 2, none⟩ = false := by simp [World.frozen?, r3]
      unfold strV
      go_wp2
      exact bodyPost_ret (v := actV ⟨-1, m, tpl⟩) (by simp [results, Tryd.results38, go_sem, actV, strV, e0, e1, e2]) rfl ⟨rfl, act_end (by simpa using h3) hblt (((World.grownBy_alloc w _ (some b)).trans hg2).trans hg3) _ _ _⟩
    have hf : btw n 0 255 = true := by unfold btw; simp; omega
    have hz' : decide (ls.length = 0) = false := by
      simp only [decide_eq_false_iff_not]
      intro h1
      have := hz h1
      rw [hG, hf] at this
      cases this
    rw [hz'] at hnx
    rw [hG, hf]
    clear hm hG hz hf hz'
    obtain ⟨m, rfl⟩ : ∃ m, m = n := ⟨_, rfl⟩
    go_enter Tryd.func38, Tryd.ntmps38
    go_wp2_with fail
    refine hnx.mono ?_
    rintro e w1 ⟨rfl, hg1, g1, o1, cap1, h1⟩
    have r1 := res_keep hg1 (by omega) (World.alloc_heap_new w _)
    unfold strV
    go_wp2_with fail
    refine (hcp w1).mono ?_
    rintro e w2 ⟨rfl, hw2⟩
    subst w2
    go_wp2_with fail
    refine (hrd w1).mono ?_
    rintro e w2 ⟨rfl, hw2⟩
    subst w2
    go_wp2_with fail
    have h2 := h1
    have hg2 := hg1
    have r2 := r1
    generalize hw12 : w1 = w2 at *
    clear hw12
    refine (hwd _ _ _ _ _ h2).mono ?_
    rintro e w3 ⟨rfl, hg3, g3, o3, cap3, h3⟩
    have r3 := res_keep hg3 (by omega) r2
    have e0 : w3.cell? ⟨w.heap.size, 0, none⟩ = some (.int .i64 0) := by simp [World.cell?, r3]
    have e1 : w3.cell? ⟨w.heap.size, 1, none⟩ = some (.int .i64 0) := by simp [World.cell?, r3]
    have e2 : w3.cell? ⟨w.heap.size, 2, none⟩ = some (.string ⟨#[]⟩) := by simp [World.cell?, r3]
    have k0 : w3.frozen? ⟨w.heap.size, 0, none⟩ = false := by simp [World.frozen?, r3]
    have k1 : w3.frozen? ⟨w.heap.size, 1, none⟩ = false := by simp [World.frozen?, r3]
    have k2 : w3.frozen? ⟨w.heap.size, 2, none⟩ = false := by simp [World.frozen?, r3]
    unfold strV
    go_wp2
    exact bodyPost_ret (v := actV ⟨-1, m, tpl⟩) (by simp [results, Tryd.results38, go_sem, actV, strV, e0, e1, e2]) rfl ⟨rfl, act_end (by simpa using h3) hblt (((World.grownBy_alloc w _ (some b)).trans hg2).trans hg3) _ _ _⟩
end Go.Proofs.YtipndbhedaknnaaDoor
