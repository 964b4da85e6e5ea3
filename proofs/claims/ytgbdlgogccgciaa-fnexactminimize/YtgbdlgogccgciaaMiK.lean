import Derived.Test.YtgbdlgogccgciaaMiEMiF
namespace Go.Proofs.Ytgbdlgogccgciaa
open Go.RowKit
attribute [local go_sem ↓] Go.wp_at_zero Go.wp_at_succ

/- A REGISTER OF TEXTS. -/
theorem now_at (k : ByteArray) : ∀ (ks : List ByteArray) (i : Nat), Instr.findNow .string (.string k) ((ks.zipIdx i).map fun x => { key := .string x.1, val := .int .i64 (x.2 : Int), born := x.2 }) i = some (if idxR ks k < ks.length then some (i + idxR ks k, .int .i64 ((i + idxR ks k : Nat) : Int)) else none)
  | [], i => by simp [Instr.findNow, idxR]
  | x :: ks, i => by
    rw [List.zipIdx_cons, List.map_cons]
    unfold Instr.findNow
    by_cases e : k = x
    · subst e
      have h0 : idxR (k :: ks) k = 0 := by simp [idxR, List.findIdx_cons]
      have hb : (k == k) = true := (MapKept.bytes_beq _ _).2 rfl
      rw [h0]
      simp [Instr.sameNow, hb]
    · have h1 : idxR (x :: ks) k = idxR ks k + 1 := by simp [idxR, List.findIdx_cons, e]
      have hb : (k == x) = false := by
        cases h : (k == x)
        · rfl
        · exact absurd ((MapKept.bytes_beq _ _).1 h) e
      have ih := now_at k ks (i + 1)
      rw [h1]
      simp only [Instr.sameNow, hb]
      rw [ih]
      simp only [List.length_cons, Nat.add_lt_add_iff_right]
      rw [show i + 1 + idxR ks k = i + (idxR ks k + 1) by omega]
theorem find_text {P : Program} {kt : TypeId} (w : World) (hu : P.underlying kt = some .string) (ks : List ByteArray) (k : ByteArray) : (Instr.findKey kt (.string k) (regL Value.string ks)).run P w = .ok (foundR ks k) w := by
  refine MapKept.run_findKey hu ?_
  have := now_at k ks 0
  simp only [Nat.zero_add] at this
  exact this

set_option maxRecDepth 100000 in
set_option maxHeartbeats 1000000 in
theorem numberS_ok (r : Nat) (ks : List ByteArray) (k : ByteArray) (w : World) (hg : w.heap[r]? = some (.map (regE Value.string ks) ks.length)) :
    Calls Try.prog 32 #[.map (some r), .string k] w (NumR Value.string w r ks k) := by
  have hm := Try.underlying49
  have hc : ∀ (e : Bool) (k : ByteArray), (Instr.checkKey e 10000 9 (.string k)).run Try.prog w = .ok () w := fun e k => MapKept.run_checkKey Try.underlying9 (by simp [MapKept.IsKey]) e 9999
  have hf : ∀ (ks : List ByteArray) (k : ByteArray), (Instr.findKey 9 (.string k) (regL Value.string ks)).run Try.prog w = .ok (foundR ks k) w := fun ks k => find_text w Try.underlying9 ks k
  have hl := reg_look Value.string w hm hc hf (Try.zeroInt w) r ks k hg
  have hr := row_lt hg
  have hn2 := regE_size Value.string ks
  by_cases hk : k ∈ ks
  · simp only [hk, if_true, decide_true] at hl
    have HN : Hid (NumR Value.string w r ks k (.returned (.tuple #[.int .i64 (idxR ks k : Int), .bool false])) w) := ⟨by simp [hk], by unfold addR; rw [if_pos hk]; exact hg, World.grownBy.refl _ _⟩
    have hil := idxR_lt.2 hk
    generalize idxR ks k = ix at *
    clear hc hf hm hn2
    go_enter Try.func32, Try.ntmps32
    go_wp2
    refine bodyPost_ret (v := .tuple #[.int .i64 (ix : Int), .bool false]) (by simp [results, Try.results32, go_sem]) rfl HN.out
  · simp only [hk, if_false, decide_false] at hl
    have hp := reg_put Value.string w hm hc hf r ks k hk hg
    obtain ⟨W1, hW1⟩ : ∃ W1, { w with heap := w.heap.setIfInBounds r (.map (regE Value.string (ks ++ [k])) (ks ++ [k]).length) } = W1 := ⟨_, rfl⟩
    have hs1 : W1.heap = w.heap.setIfInBounds r (.map (regE Value.string (ks ++ [k])) (ks ++ [k]).length) := by rw [← hW1]
    have HN : Hid (NumR Value.string w r ks k (.returned (.tuple #[.int .i64 (ks.length : Int), .bool true])) W1) := by
      refine ⟨by rw [idxR_new hk]; simp [hk], ?_, ?_⟩
      · unfold addR
        rw [if_neg hk, hs1]
        exact (MapKept.heap_set hg).1
      · refine ⟨by rw [← hW1], by rw [← hW1], by rw [← hW1], by rw [hs1]; simp, fun b _ hne => ?_⟩
        rw [hs1, (MapKept.heap_set hg).2 b (fun e => hne (by rw [e]))]
    rw [hW1] at hp
    have hlen : ∀ ty, (Builtin.len_ #[49] ty #[.map (some r)]).run Try.prog w = .ok (.int .i64 (ks.length : Int)) w := fun ty => by
      simp [Builtin.len_, run_underlying hm, MapKept.run_getObj_map hg, goInt, Result.andThen, hn2]
    clear hc hf hm hn2 hW1 hs1
    go_enter Try.func32, Try.ntmps32
    go_wp2
    refine bodyPost_ret (v := .tuple #[.int .i64 (ks.length : Int), .bool true]) (by simp [results, Try.results32, go_sem]) rfl HN.out
end Go.Proofs.Ytgbdlgogccgciaa
