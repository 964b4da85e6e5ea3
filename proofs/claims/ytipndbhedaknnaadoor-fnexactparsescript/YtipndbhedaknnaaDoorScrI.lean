import Derived.Test.YtipndbhedaknnaaDoorRdlJ
import Derived.Test.YtipndbhedaknnaaDoorScrLaw
namespace Go.Proofs.YtipndbhedaknnaaDoor
open Go.RowKit
attribute [local go_sem ↓] Go.wp_at_zero Go.wp_at_succ

theorem row_mono {w : World} {base base' n : Nat} {e : TypeId} {sz : Nat} {v : Value} {xs : List Value} (h : w.ownsRow base e sz v n xs) (hb : base' ≤ base) : w.ownsRow base' e sz v n xs := by
  refine ⟨h.1, ?_⟩
  rcases h.2 with hn | ⟨g, cap, cur, rfl, h1, h2⟩
  · exact .inl hn
  · exact .inr ⟨g, cap, cur, rfl, Nat.le_trans hb h1, h2⟩
set_option maxRecDepth 100000 in
set_option maxHeartbeats 2000000 in
theorem implScript_ok (t : ByteArray) (w : World) (hsz : t.size ≤ 1048576) :
    Calls Tryd.prog 11 #[.string t] w fun e w' => ScrAnsV w (scriptF t) e w' := by
  by_cases hl : 20000 < (t.size : Int)
  · have H : Hid (scriptF t = ([], 1, 0)) := by show _ = _; unfold scriptF; rw [if_pos (by omega)]
    go_enter Tryd.func11, Tryd.ntmps11
    go_wp2
    refine bodyPost_ret (v := .tuple #[.slice (some ⟨w.heap.size, 0, none⟩) 0 0, .int .i64 1, .int .i64 0]) (by simp [results, Tryd.results11, go_sem]) rfl ?_
    rw [H.out]
    exact ⟨_, rfl, ⟨rfl, .inr ⟨w.heap.size, 0, #[], rfl, Nat.le_refl _, heap_alloc_new _ _, Nat.le_refl _, Nat.zero_le _, rfl, rfl⟩⟩, (Below.refl _ _).alloc (Nat.le_refl _) _⟩
  have HF : Hid (scriptF t = scriptL 0 [] (cutF 10 t.data.toList)) := by show _ = _; unfold scriptF; rw [if_neg (by omega)]
  have hmm := @run_makeMap Tryd.prog
  have hu1 := map_put (P := Tryd.prog) (mt := 52) Tryd.underlying52 Tryd.underlying9 (w.alloc (.cells #[.slice none 0 0] 63)) #[] 0 ⟨#[105, 110]⟩ (.func (.func 27) #[.pointer (some ⟨w.heap.size, 0, none⟩)] #[]) rfl
  have hu2 := map_put (P := Tryd.prog) (mt := 52) Tryd.underlying52 Tryd.underlying9 (w.alloc (.cells #[.slice none 0 0] 63)) #[{ key := .string ⟨#[105, 110]⟩, val := (.func (.func 27) #[.pointer (some ⟨w.heap.size, 0, none⟩)] #[]), born := 0 }] 1 ⟨#[116, 105, 99, 107]⟩ (.func (.func 28) #[.pointer (some ⟨w.heap.size, 0, none⟩)] #[]) (by rw [find_next _ _ _ _ _ _ (by decide)]; rfl)
  have hu3 := map_put (P := Tryd.prog) (mt := 52) Tryd.underlying52 Tryd.underlying9 (w.alloc (.cells #[.slice none 0 0] 63)) #[{ key := .string ⟨#[105, 110]⟩, val := (.func (.func 27) #[.pointer (some ⟨w.heap.size, 0, none⟩)] #[]), born := 0 }, { key := .string ⟨#[116, 105, 99, 107]⟩, val := (.func (.func 28) #[.pointer (some ⟨w.heap.size, 0, none⟩)] #[]), born := 1 }] 2 ⟨#[101, 111, 102]⟩ (.func (.func 29) #[.pointer (some ⟨w.heap.size, 0, none⟩)] #[]) (by rw [find_next _ _ _ _ _ _ (by decide), find_next _ _ _ _ _ _ (by decide)]; rfl)
  simp only [World.size_alloc, List.push_toArray, List.nil_append, List.cons_append, Nat.reduceAdd] at hu1 hu2 hu3
  have hrl := readLines_ok t w.heap.size (w.heap.size + 1) w.heap.size w ((w.alloc (.cells #[.slice none 0 0] 63)).alloc (.map (mapE w.heap.size) 3)) (by omega) (((Below.refl _ w).alloc (Nat.le_refl _) _).alloc (by simp) _) (Nat.le_refl _) (Nat.le_refl _) (by simp; omega) (by simp) (by omega) (by have := World.alloc_heap_new (w.alloc (.cells #[.slice none 0 0] 63)) (.map (mapE w.heap.size) 3); rwa [World.size_alloc] at this) ((Boxed.new w 63 (.slice none 0 0)).alloc _)
  unfold mapE at hrl
  go_enter Tryd.func11, Tryd.ntmps11
  go_wp2_with fail
  refine hrl.mono ?_
  rintro e w' ⟨hlow, ⟨vv, evs, rfl, hsl, hra⟩ | ⟨code, line, rfl, hc, hsl⟩⟩
  · have H : Hid (scriptF t = (evs, 0, 0)) := by show _ = _; rw [HF.out, hsl]
    have c0 := hra.1.cell
    clear hsl hrl
    go_wp2
    refine bodyPost_ret (v := .tuple #[vv, .int .i64 0, .int .i64 0]) (by simp [results, Tryd.results11, go_sem]) rfl ?_
    rw [H.out]
    exact ⟨vv, rfl, row_mono hra.2 (by simp; omega), hlow⟩
  · have H : Hid (scriptF t = ([], code, line)) := by show _ = _; rw [HF.out, hsl]
    have hc' : (code != 0) = true := by simpa using hc
    clear hsl hrl hc
    go_wp2
    refine bodyPost_ret (v := .tuple #[.slice (some ⟨w'.heap.size, 0, none⟩) 0 0, .int .i64 code, .int .i64 line]) (by simp [results, Tryd.results11, go_sem]) rfl ?_
    rw [H.out]
    exact ⟨_, rfl, ⟨rfl, .inr ⟨w'.heap.size, 0, #[], rfl, hlow.size, heap_alloc_new _ _, Nat.le_refl _, Nat.zero_le _, rfl, rfl⟩⟩, hlow.alloc hlow.size _⟩
end Go.Proofs.YtipndbhedaknnaaDoor
