import Derived.Test.YtipndbhedaknnaaDoorRpgJ
import Derived.Test.YtipndbhedaknnaaDoorPrgA
namespace Go.Proofs.YtipndbhedaknnaaDoor
open Go.RowKit
attribute [local go_sem ↓] Go.wp_at_zero Go.wp_at_succ

set_option maxRecDepth 100000 in
set_option maxHeartbeats 4000000 in
theorem implProgram_ok (t : ByteArray) (w : World) (hsz : t.size ≤ 1048576) :
    Calls Tryd.prog 6 #[.string t] w fun e w' => PrgAnsV w (progF t) e w' := by
  have c20 : ((w.alloc (.cells #[.int .i64 0, .int .i64 0, .slice none 0 0] 24)).alloc (.cells #[.int .i64 0, .int .i64 0, .slice none 0 0] 50)).heap.size = w.heap.size + 1 + 1 := by simp
  by_cases hl : 20000 < (t.size : Int)
  · have H : Hid (progF t = (.zero, 1, 0)) := by show _ = _; unfold progF; rw [if_pos (by omega)]
    go_enter Tryd.func6, Tryd.ntmps6
    go_wp2
    refine bodyPost_ret (v := .tuple #[.agg #[.int .i64 0, .int .i64 0, .slice none 0 0], .int .i64 1, .int .i64 0]) (by simp [results, Tryd.results6, go_sem]) rfl ?_
    exact prgAnsV_bad H.out ((Below.refl _ _).alloc (Nat.le_refl _) _)
  have HF : Hid (progF t = progL 0 .zero (cutF 10 t.data.toList)) := by show _ = _; unfold progF; rw [if_neg (by omega)]
  have hmm := @run_makeMap Tryd.prog
  have hu1 := map_put (P := Tryd.prog) (mt := 52) Tryd.underlying52 Tryd.underlying9 ((w.alloc (.cells #[.int .i64 0, .int .i64 0, .slice none 0 0] 24)).alloc (.cells #[.int .i64 0, .int .i64 0, .slice none 0 0] 50)) #[] 0 ⟨#[108, 105, 109, 105, 116]⟩ (.func (.func 17) #[.pointer (some ⟨w.heap.size + 1, 0, none⟩)] #[]) rfl
  have hu2 := map_put (P := Tryd.prog) (mt := 52) Tryd.underlying52 Tryd.underlying9 ((w.alloc (.cells #[.int .i64 0, .int .i64 0, .slice none 0 0] 24)).alloc (.cells #[.int .i64 0, .int .i64 0, .slice none 0 0] 50)) #[{ key := .string ⟨#[108, 105, 109, 105, 116]⟩, val := (.func (.func 17) #[.pointer (some ⟨w.heap.size + 1, 0, none⟩)] #[]), born := 0 }] 1 ⟨#[115, 116, 97, 116, 101]⟩ (.func (.func 18) #[.pointer (some ⟨w.heap.size + 1, 0, none⟩)] #[]) (by rw [find_next _ _ _ _ _ _ (by decide)]; rfl)
  have hu3 := map_put (P := Tryd.prog) (mt := 52) Tryd.underlying52 Tryd.underlying9 ((w.alloc (.cells #[.int .i64 0, .int .i64 0, .slice none 0 0] 24)).alloc (.cells #[.int .i64 0, .int .i64 0, .slice none 0 0] 50)) #[{ key := .string ⟨#[108, 105, 109, 105, 116]⟩, val := (.func (.func 17) #[.pointer (some ⟨w.heap.size + 1, 0, none⟩)] #[]), born := 0 }, { key := .string ⟨#[115, 116, 97, 116, 101]⟩, val := (.func (.func 18) #[.pointer (some ⟨w.heap.size + 1, 0, none⟩)] #[]), born := 1 }] 2 ⟨#[111, 110]⟩ (.func (.func 19) #[.pointer (some ⟨w.heap.size + 1, 0, none⟩)] #[]) (by rw [find_next _ _ _ _ _ _ (by decide), find_next _ _ _ _ _ _ (by decide)]; rfl)
  have hu4 := map_put (P := Tryd.prog) (mt := 52) Tryd.underlying52 Tryd.underlying9 ((w.alloc (.cells #[.int .i64 0, .int .i64 0, .slice none 0 0] 24)).alloc (.cells #[.int .i64 0, .int .i64 0, .slice none 0 0] 50)) #[{ key := .string ⟨#[108, 105, 109, 105, 116]⟩, val := (.func (.func 17) #[.pointer (some ⟨w.heap.size + 1, 0, none⟩)] #[]), born := 0 }, { key := .string ⟨#[115, 116, 97, 116, 101]⟩, val := (.func (.func 18) #[.pointer (some ⟨w.heap.size + 1, 0, none⟩)] #[]), born := 1 }, { key := .string ⟨#[111, 110]⟩, val := (.func (.func 19) #[.pointer (some ⟨w.heap.size + 1, 0, none⟩)] #[]), born := 2 }] 3 ⟨#[116, 105, 109, 101, 111, 117, 116]⟩ (.func (.func 20) #[.pointer (some ⟨w.heap.size + 1, 0, none⟩)] #[]) (by rw [find_next _ _ _ _ _ _ (by decide), find_next _ _ _ _ _ _ (by decide), find_next _ _ _ _ _ _ (by decide)]; rfl)
  have hu5 := map_put (P := Tryd.prog) (mt := 52) Tryd.underlying52 Tryd.underlying9 ((w.alloc (.cells #[.int .i64 0, .int .i64 0, .slice none 0 0] 24)).alloc (.cells #[.int .i64 0, .int .i64 0, .slice none 0 0] 50)) #[{ key := .string ⟨#[108, 105, 109, 105, 116]⟩, val := (.func (.func 17) #[.pointer (some ⟨w.heap.size + 1, 0, none⟩)] #[]), born := 0 }, { key := .string ⟨#[115, 116, 97, 116, 101]⟩, val := (.func (.func 18) #[.pointer (some ⟨w.heap.size + 1, 0, none⟩)] #[]), born := 1 }, { key := .string ⟨#[111, 110]⟩, val := (.func (.func 19) #[.pointer (some ⟨w.heap.size + 1, 0, none⟩)] #[]), born := 2 }, { key := .string ⟨#[116, 105, 109, 101, 111, 117, 116]⟩, val := (.func (.func 20) #[.pointer (some ⟨w.heap.size + 1, 0, none⟩)] #[]), born := 3 }] 4 ⟨#[102, 117, 108, 108]⟩ (.func (.func 21) #[.pointer (some ⟨w.heap.size + 1, 0, none⟩)] #[]) (by rw [find_next _ _ _ _ _ _ (by decide), find_next _ _ _ _ _ _ (by decide), find_next _ _ _ _ _ _ (by decide), find_next _ _ _ _ _ _ (by decide)]; rfl)
  simp only [World.size_alloc, List.push_toArray, List.nil_append, List.cons_append, Nat.reduceAdd] at hu1 hu2 hu3 hu4 hu5
  have hrl := progLines_ok t (w.heap.size + 1) (w.heap.size + 1 + 1) (w.heap.size + 1) (w.alloc (.cells #[.int .i64 0, .int .i64 0, .slice none 0 0] 24)) (((w.alloc (.cells #[.int .i64 0, .int .i64 0, .slice none 0 0] 24)).alloc (.cells #[.int .i64 0, .int .i64 0, .slice none 0 0] 50)).alloc (.map (mapP (w.heap.size + 1)) 5)) (by omega) (((Below.refl _ _).alloc (by simp) _).alloc (by simp) _) (by simp) (Nat.le_refl _) (by simp) (by simp) (by omega) (by have := World.alloc_heap_new ((w.alloc (.cells #[.int .i64 0, .int .i64 0, .slice none 0 0] 24)).alloc (.cells #[.int .i64 0, .int .i64 0, .slice none 0 0] 50)) (.map (mapP (w.heap.size + 1)) 5); rwa [c20] at this) (by
    have h1 : (w.alloc (.cells #[.int .i64 0, .int .i64 0, .slice none 0 0] 24)).heap.size = w.heap.size + 1 := by simp
    have := World.alloc_heap_new (w.alloc (.cells #[.int .i64 0, .int .i64 0, .slice none 0 0] 24)) (.cells #[.int .i64 0, .int .i64 0, .slice none 0 0] 50)
    rw [h1] at this
    rw [Below.heap_alloc _ _ _ (by rw [c20]; omega)]
    exact this)
  unfold mapP at hrl
  go_enter Tryd.func6, Tryd.ntmps6
  go_wp2_with fail
  refine hrl.mono ?_
  rintro e w' ⟨hlow, ⟨sv, cv, p, rfl, hpl, hok, hra⟩ | ⟨code, line, rfl, hc, hpl⟩⟩
  · have hrs : w'.heap[w.heap.size]? = some (.cells #[.int .i64 0, .int .i64 0, .slice none 0 0] 24 (0, 0)) := (hlow.block _ (by omega)).trans (World.alloc_heap_new w _)
    have hB : Below w.heap.size w w' := ((Below.refl _ w).alloc (Nat.le_refl _) _).trans (hlow.mono (by omega))
    have hB3 : ∀ a b c, Below w.heap.size w (((w'.setCell ⟨w.heap.size, 0, none⟩ a).setCell ⟨w.heap.size, 1, none⟩ b).setCell ⟨w.heap.size, 2, none⟩ c) := fun a b c => ((hB.setCell (Nat.le_refl _) _).setCell (Nat.le_refl _) _).setCell (Nat.le_refl _) _
    have r0 : w'.cell? ⟨w.heap.size, 0, none⟩ = some (.int .i64 0) := cell_of_row w' _ 0 _ _ _ hrs
    have r1 : w'.cell? ⟨w.heap.size, 1, none⟩ = some (.int .i64 0) := cell_of_row w' _ 1 _ _ _ hrs
    have r2 : w'.cell? ⟨w.heap.size, 2, none⟩ = some (.slice none 0 0) := cell_of_row w' _ 2 _ _ _ hrs
    have q0 := frozen_of_row w' _ 0 _ _ hrs
    have q1 := frozen_of_row w' _ 1 _ _ hrs
    have q2 := frozen_of_row w' _ 2 _ _ hrs
    have c0 := hra.c0
    have c1 := hra.c1
    have c2 := hra.c2
    obtain ⟨k, hpl⟩ := hpl
    obtain ⟨lim, most, ss⟩ := p
    dsimp only at c0 c1
    by_cases hss : ss = []
    · subst hss
      have H : Hid (progF t = (.zero, 5, 0)) := by show _ = _; rw [HF.out, hpl, progL, if_pos rfl]
      obtain ⟨ao, scap, rfl⟩ := hra.nil
      clear hpl hrl
      go_wp2
      refine bodyPost_ret (v := .tuple #[.agg #[.int .i64 0, .int .i64 0, .slice none 0 0], .int .i64 5, .int .i64 0]) (by simp [results, Tryd.results6, go_sem, r0, r1, r2]) rfl ?_
      exact prgAnsV_bad H.out (hB3 _ _ _)
    · have H : Hid (progF t = (⟨lim, most, ss⟩, 0, 0)) := by show _ = _; rw [HF.out, hpl, progL, if_neg hss]
      obtain ⟨ao, scap, hsv⟩ := row_formP hra.V.row
      subst hsv
      have hsl : ((ss.length : Int) == 0) = false := by
        have : ¬ss.length = 0 := fun e => hss (List.eq_nil_of_length_eq_zero e)
        simp; omega
      dsimp only at c2
      clear hpl hrl hss
      go_wp2
      refine bodyPost_ret (v := .tuple #[.agg #[.int .i64 lim, .int .i64 most, .slice ao ss.length scap], .int .i64 0, .int .i64 0]) (by simp [results, Tryd.results6, go_sem, r0, r1, r2]) rfl ?_
      rw [H.out]
      refine ⟨_, cv, rfl, ?_, hB3 _ _ _⟩
      refine PrV.baseV (hra.V.keep fun b hb => ?_) (by simp; omega)
      have := (hra.V.lt hb).1
      simp at this
      rw [Below.heap_setCell _ _ _ _ (by show b ≠ w.heap.size; omega), Below.heap_setCell _ _ _ _ (by show b ≠ w.heap.size; omega), Below.heap_setCell _ _ _ _ (by show b ≠ w.heap.size; omega)]
  · have hrs : w'.heap[w.heap.size]? = some (.cells #[.int .i64 0, .int .i64 0, .slice none 0 0] 24 (0, 0)) := (hlow.block _ (by omega)).trans (World.alloc_heap_new w _)
    have hB : Below w.heap.size w w' := ((Below.refl _ w).alloc (Nat.le_refl _) _).trans (hlow.mono (by omega))
    have hB3 : ∀ a b c, Below w.heap.size w (((w'.setCell ⟨w.heap.size, 0, none⟩ a).setCell ⟨w.heap.size, 1, none⟩ b).setCell ⟨w.heap.size, 2, none⟩ c) := fun a b c => ((hB.setCell (Nat.le_refl _) _).setCell (Nat.le_refl _) _).setCell (Nat.le_refl _) _
    have r0 : w'.cell? ⟨w.heap.size, 0, none⟩ = some (.int .i64 0) := cell_of_row w' _ 0 _ _ _ hrs
    have r1 : w'.cell? ⟨w.heap.size, 1, none⟩ = some (.int .i64 0) := cell_of_row w' _ 1 _ _ _ hrs
    have r2 : w'.cell? ⟨w.heap.size, 2, none⟩ = some (.slice none 0 0) := cell_of_row w' _ 2 _ _ _ hrs
    have q0 := frozen_of_row w' _ 0 _ _ hrs
    have q1 := frozen_of_row w' _ 1 _ _ hrs
    have q2 := frozen_of_row w' _ 2 _ _ hrs
    have H : Hid (progF t = (.zero, code, line)) := by show _ = _; rw [HF.out, hpl]
    have hc' : (code != 0) = true := by simpa using hc
    clear hpl hrl hc
    go_wp2
    refine bodyPost_ret (v := .tuple #[.agg #[.int .i64 0, .int .i64 0, .slice none 0 0], .int .i64 code, .int .i64 line]) (by simp [results, Tryd.results6, go_sem, r0, r1, r2]) rfl ?_
    exact prgAnsV_bad H.out (hB3 _ _ _)
end Go.Proofs.YtipndbhedaknnaaDoor
