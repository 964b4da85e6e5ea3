import Derived.Test.YtgbdlgogccgciaaMiC
import Derived.MapKept
import Derived.Laws.StructEq
import Derived.Laws.Small
namespace Go.Proofs.Ytgbdlgogccgciaa
open Go.RowKit
attribute [local go_sem ↓] Go.wp_at_zero Go.wp_at_succ

/- TRAITS: five words. -/
abbrev Tr := Nat × Nat × Nat × Nat × Nat
def trC (t : Tr) : Array Value := #[.int .u64 (t.1 : Int), .int .u64 (t.2.1 : Int), .int .u64 (t.2.2.1 : Int), .int .u64 (t.2.2.2.1 : Int), .int .u64 (t.2.2.2.2 : Int)]
def trV (t : Tr) : Value := .agg (trC t)
theorem tr_eq (s t : Tr) : ((s.1 : Int) == (t.1 : Int) && ((s.2.1 : Int) == (t.2.1 : Int) && ((s.2.2.1 : Int) == (t.2.2.1 : Int) && ((s.2.2.2.1 : Int) == (t.2.2.2.1 : Int) && (s.2.2.2.2 : Int) == (t.2.2.2.2 : Int))))) = decide (s = t) := by
  obtain ⟨a, b, c, d, e⟩ := s
  obtain ⟨a', b', c', d', e'⟩ := t
  by_cases h : (a, b, c, d, e) = (a', b', c', d', e')
  · rw [decide_eq_true h]
    simp only [Prod.mk.injEq] at h
    simp [h]
  · rw [decide_eq_false h]
    simp only [Prod.mk.injEq] at h
    simp only [Bool.and_eq_false_iff, beq_eq_false_iff_ne, ne_eq]
    omega
theorem Try.eqTr (s t : Tr) (w : World) : (Op.equalIn 10000 68 (trV s) (trV t)).run Try.prog w = .ok (decide (s = t)) w := by
  have u3 := Try.underlying66
  have a3 := Try.isAgg66
  have z3 := Try.sizeOf66
  rw [← tr_eq]
  unfold trV trC
  rw [show (10000 : Nat) = 9999 + 1 from rfl, Op.equalIn]
  simp only [Sem.run_bind, run_underlying Try.underlying68, Result.andThen_ok]
  simp only [Std.Legacy.Range.forIn_eq_forIn_range', Std.Legacy.Range.size, Nat.sub_zero, Nat.add_sub_cancel, Nat.div_one, List.range'_succ, List.range'_zero, List.forIn_cons, List.forIn_nil]
  go_simp
  by_cases h1 : (s.1 : Int) = (t.1 : Int) <;> by_cases h2 : (s.2.1 : Int) = (t.2.1 : Int) <;> by_cases h3 : (s.2.2.1 : Int) = (t.2.2.1 : Int) <;> by_cases h4 : (s.2.2.2.1 : Int) = (t.2.2.2.1 : Int) <;> by_cases h5 : (s.2.2.2.2 : Int) = (t.2.2.2.2 : Int) <;> simp [h1, h2, h3, h4, h5]
theorem Try.checkTr (e : Bool) (t : Tr) (w : World) : (Instr.checkKey e 10000 68 (trV t)).run Try.prog w = .ok () w := by
  have u3 := Try.underlying66
  have a3 := Try.isAgg66
  have z3 := Try.sizeOf66
  have hk : ∀ x : Int, (Instr.checkKey e 9999 66 (.int .u64 x)).run Try.prog w = .ok () w := fun x => MapKept.run_checkKey Try.underlying66 (by simp [MapKept.IsKey]) e 9998
  unfold trV trC
  rw [show (10000 : Nat) = 9999 + 1 from rfl, Instr.checkKey]
  simp only [Sem.run_bind, run_underlying Try.underlying68, Result.andThen_ok]
  simp only [Std.Legacy.Range.forIn_eq_forIn_range', Std.Legacy.Range.size, Nat.sub_zero, Nat.add_sub_cancel, Nat.div_one, List.range'_succ, List.range'_zero, List.forIn_cons, List.forIn_nil]
  go_simp

/- A REGISTER: keys in the order in which they were met. -/
def regL {κ : Type} (enc : κ → Value) (ks : List κ) : List MapEntry := ks.zipIdx.map fun x => { key := enc x.1, val := .int .i64 (x.2 : Int), born := x.2 }
def regE {κ : Type} (enc : κ → Value) (ks : List κ) : Array MapEntry := (regL enc ks).toArray
theorem regL_snoc {κ : Type} (enc : κ → Value) (ks : List κ) (k : κ) : regL enc (ks ++ [k]) = regL enc ks ++ [{ key := enc k, val := .int .i64 (ks.length : Int), born := ks.length }] := by simp [regL, List.zipIdx_append]
theorem regE_push {κ : Type} (enc : κ → Value) (ks : List κ) (k : κ) : (regE enc ks).push { key := enc k, val := .int .i64 (ks.length : Int), born := ks.length } = regE enc (ks ++ [k]) := by
  unfold regE
  rw [regL_snoc]
  simp
theorem regE_size {κ : Type} (enc : κ → Value) (ks : List κ) : (regE enc ks).size = ks.length := by simp [regE, regL]
/-- What finding a key answers. -/
def idxR {κ : Type} [DecidableEq κ] (ks : List κ) (k : κ) : Nat := ks.findIdx fun x => decide (k = x)
def foundR {κ : Type} [DecidableEq κ] (ks : List κ) (k : κ) : Option (Nat × Value) := if idxR ks k < ks.length then some (idxR ks k, .int .i64 (idxR ks k : Int)) else none
theorem idxR_lt {κ : Type} [DecidableEq κ] {ks : List κ} {k : κ} : idxR ks k < ks.length ↔ k ∈ ks := by
  unfold idxR
  rw [List.findIdx_lt_length]
  exact ⟨fun ⟨x, h1, h2⟩ => (of_decide_eq_true h2) ▸ h1, fun h => ⟨k, h, by simp⟩⟩
theorem idxR_le {κ : Type} [DecidableEq κ] (ks : List κ) (k : κ) : idxR ks k ≤ ks.length := List.findIdx_le_length
theorem idxR_get {κ : Type} [DecidableEq κ] {ks : List κ} {k : κ} (h : k ∈ ks) : ks[idxR ks k]? = some k := by
  have hl := idxR_lt.2 h
  rw [List.getElem?_eq_getElem hl]
  have := List.findIdx_getElem (w := hl)
  exact congrArg some (of_decide_eq_true this).symm
theorem ask_at {P : Program} {kt : TypeId} {κ : Type} [DecidableEq κ] (enc : κ → Value) (w : World) (heq : ∀ a b : κ, (Op.equal kt (enc a) (enc b)).run P w = .ok (decide (a = b)) w) (k : κ) : ∀ (ks : List κ) (i : Nat), (Instr.findAsking kt (enc k) ((ks.zipIdx i).map fun x => { key := enc x.1, val := .int .i64 (x.2 : Int), born := x.2 }) i).run P w = .ok (if idxR ks k < ks.length then some (i + idxR ks k, .int .i64 ((i + idxR ks k : Nat) : Int)) else none) w
  | [], i => by simp [Instr.findAsking, idxR]
  | x :: ks, i => by
    rw [List.zipIdx_cons, List.map_cons]
    unfold Instr.findAsking
    simp only [Sem.run_bind, heq, Result.andThen_ok]
    by_cases e : k = x
    · subst e
      have h0 : idxR (k :: ks) k = 0 := by simp [idxR, List.findIdx_cons]
      rw [h0]
      simp
    · have h1 : idxR (x :: ks) k = idxR ks k + 1 := by simp [idxR, List.findIdx_cons, e]
      have ih := ask_at enc w heq k ks (i + 1)
      rw [decide_eq_false e, h1]
      simp only [Bool.false_eq_true, if_false]
      rw [ih]
      simp only [List.length_cons, Nat.add_lt_add_iff_right]
      rw [show i + 1 + idxR ks k = i + (idxR ks k + 1) by omega]
theorem find_reg {P : Program} {kt : TypeId} {d : TypeDesc} {κ : Type} [DecidableEq κ] (enc : κ → Value) (w : World) (hu : P.underlying kt = some d) (hsame : ∀ a b : κ, Instr.sameNow d (enc a) (enc b) = none) (heq : ∀ a b : κ, (Op.equal kt (enc a) (enc b)).run P w = .ok (decide (a = b)) w) (ks : List κ) (k : κ) :
    (Instr.findKey kt (enc k) (regL enc ks)).run P w = .ok (foundR ks k) w := by
  have hf : (Instr.findAsking kt (enc k) (regL enc ks)).run P w = .ok (foundR ks k) w := by
    have := ask_at enc w heq k ks 0
    simp only [Nat.zero_add] at this
    exact this
  unfold Instr.findKey
  simp only [Sem.run_bind, run_underlying hu, Result.andThen_ok]
  cases ks with
  | nil => simp [regL, Instr.findNow, foundR]
  | cons x ks =>
    have : Instr.findNow d (enc k) (regL enc (x :: ks)) 0 = none := by simp [regL, List.zipIdx_cons, Instr.findNow, hsame]
    rw [this]
    exact hf
theorem reg_look {P : Program} {mt kt et : TypeId} {κ : Type} [DecidableEq κ] (enc : κ → Value) (w : World) (hm : P.underlying mt = some (.map kt et)) (hc : ∀ (e : Bool) (k : κ), (Instr.checkKey e 10000 kt (enc k)).run P w = .ok () w) (hf : ∀ (ks : List κ) (k : κ), (Instr.findKey kt (enc k) (regL enc ks)).run P w = .ok (foundR ks k) w) (hz : (zeroValue et).run P w = .ok (.int .i64 0) w) (r : Nat) (ks : List κ) (k : κ) (hg : w.heap[r]? = some (.map (regE enc ks) ks.length)) :
    (Instr.lookup mt (.map (some r)) (enc k) true).run P w = .ok (.tuple #[.int .i64 (if k ∈ ks then (idxR ks k : Int) else 0), .bool (decide (k ∈ ks))]) w := by
  unfold Instr.lookup
  simp only [Sem.run_bind, run_underlying hm, Result.andThen_ok, MapKept.run_getObj_map hg, Sem.run_pure, hc]
  rw [show (regE enc ks).toList = regL enc ks by simp [regE], hf]
  unfold foundR
  by_cases h : k ∈ ks
  · rw [if_pos (idxR_lt.2 h)]; simp [h]
  · rw [if_neg (fun e => h (idxR_lt.1 e))]; simp [h, hz]
theorem reg_put {P : Program} {mt kt et : TypeId} {κ : Type} [DecidableEq κ] (enc : κ → Value) (w : World) (hm : P.underlying mt = some (.map kt et)) (hc : ∀ (e : Bool) (k : κ), (Instr.checkKey e 10000 kt (enc k)).run P w = .ok () w) (hf : ∀ (ks : List κ) (k : κ), (Instr.findKey kt (enc k) (regL enc ks)).run P w = .ok (foundR ks k) w) (r : Nat) (ks : List κ) (k : κ) (hk : k ∉ ks) (hg : w.heap[r]? = some (.map (regE enc ks) ks.length)) :
    (Instr.mapUpdate mt (.map (some r)) (enc k) (.int .i64 (ks.length : Int))).run P w = .ok () { w with heap := w.heap.setIfInBounds r (.map (regE enc (ks ++ [k])) (ks ++ [k]).length) } := by
  unfold Instr.mapUpdate
  simp only [Sem.run_bind, run_underlying hm, Result.andThen_ok, MapKept.run_getObj_map hg, hc]
  rw [show (regE enc ks).toList = regL enc ks by simp [regE], hf]
  unfold foundR
  rw [if_neg (fun e => hk (idxR_lt.1 e))]
  simp only [Result.andThen_ok, MapKept.run_setObj_map _ hg, regE_push]
  simp
end Go.Proofs.Ytgbdlgogccgciaa
namespace Go.Proofs.Ytgbdlgogccgciaa
open Go.RowKit
attribute [local go_sem ↓] Go.wp_at_zero Go.wp_at_succ

def addR {κ : Type} [DecidableEq κ] (ks : List κ) (k : κ) : List κ := if k ∈ ks then ks else ks ++ [k]
theorem idxR_new {κ : Type} [DecidableEq κ] {ks : List κ} {k : κ} (h : k ∉ ks) : idxR ks k = ks.length := by
  have := idxR_le ks k
  have : ¬idxR ks k < ks.length := fun e => h (idxR_lt.1 e)
  omega
/-- What number answers. -/
def NumR {κ : Type} [DecidableEq κ] (enc : κ → Value) (w : World) (r : Nat) (ks : List κ) (k : κ) (e : Ending) (w' : World) : Prop :=
  e = .returned (.tuple #[.int .i64 (idxR ks k : Int), .bool (decide (k ∉ ks))]) ∧ w'.heap[r]? = some (.map (regE enc (addR ks k)) (addR ks k).length) ∧ w.grownBy w' (some r)
theorem Try.zeroInt (w : World) : (zeroValue 3).run Try.prog w = .ok (.int .i64 0) w := by
  simp [zeroValue, typeInfo]
  kernel_rfl

set_option maxRecDepth 100000 in
set_option maxHeartbeats 1000000 in
theorem numberT_ok (r : Nat) (ks : List Tr) (k : Tr) (w : World) (hg : w.heap[r]? = some (.map (regE trV ks) ks.length)) :
    Calls Try.prog 37 #[.map (some r), trV k] w (NumR trV w r ks k) := by
  obtain ⟨W0, hW0⟩ : ∃ W0, w.alloc (.cells (trC k) 68) = W0 := ⟨_, rfl⟩
  have hb0 : Below w.heap.size w W0 := by rw [← hW0]; exact (Below.refl _ _).alloc (Nat.le_refl _) _
  have hg0 := row_below hg hb0
  have x0 : W0.heap[w.heap.size]? = some (.cells (trC k) 68 (0, 0)) := by rw [← hW0]; exact heap_alloc_new _ _
  have hm := Try.underlying75
  have hc : ∀ (e : Bool) (k : Tr), (Instr.checkKey e 10000 68 (trV k)).run Try.prog W0 = .ok () W0 := fun e k => Try.checkTr e k W0
  have hf : ∀ (ks : List Tr) (k : Tr), (Instr.findKey 68 (trV k) (regL trV ks)).run Try.prog W0 = .ok (foundR ks k) W0 := fun ks k => find_reg trV W0 Try.underlying68 (fun _ _ => rfl) (fun a b => Try.eqTr a b W0) ks k
  have hl := reg_look trV W0 hm hc hf (Try.zeroInt W0) r ks k hg0
  have hr := row_lt hg
  have hg2 : W0.heap.size = w.heap.size + 1 := by rw [← hW0]; simp
  have hgr0 : w.grownBy W0 (some r) := by rw [← hW0]; exact World.grownBy_alloc _ _ _
  have hc0 : ∀ j u, (trC k)[j]? = some u → W0.cell? ⟨w.heap.size, j, none⟩ = some u := fun j u h => by rw [cell_of_row _ _ _ _ _ _ x0]; exact h
  obtain ⟨q0, q1, q2, q3, q4⟩ := row_five x0
  have hn2 := regE_size trV ks
  by_cases hk : k ∈ ks
  · simp only [hk, if_true, decide_true] at hl
    have HN : Hid (NumR trV w r ks k (.returned (.tuple #[.int .i64 (idxR ks k : Int), .bool false])) W0) := ⟨by simp [hk], by unfold addR; rw [if_pos hk]; exact hg0, hgr0⟩
    have hil := idxR_lt.2 hk
    unfold trV trC at hl
    unfold trC at hW0
    unfold trV trC
    generalize idxR ks k = ix at *
    clear hc hf hm x0 hg0 hgr0 hc0 hn2 hg2
    go_enter Try.func37, Try.ntmps37
    go_wp2
    refine bodyPost_ret (v := .tuple #[.int .i64 (ix : Int), .bool false]) (by simp [results, Try.results37, go_sem]) rfl HN.out
  · simp only [hk, if_false, decide_false] at hl
    have hp := reg_put trV W0 hm hc hf r ks k hk hg0
    obtain ⟨W1, hW1⟩ : ∃ W1, { W0 with heap := W0.heap.setIfInBounds r (.map (regE trV (ks ++ [k])) (ks ++ [k]).length) } = W1 := ⟨_, rfl⟩
    have hs1 : W1.heap = W0.heap.setIfInBounds r (.map (regE trV (ks ++ [k])) (ks ++ [k]).length) := by rw [← hW1]
    have HN : Hid (NumR trV w r ks k (.returned (.tuple #[.int .i64 (ks.length : Int), .bool true])) W1) := by
      refine ⟨by rw [idxR_new hk]; simp [hk], ?_, ?_⟩
      · unfold addR
        rw [if_neg hk, hs1]
        exact (MapKept.heap_set hg0).1
      · refine ⟨by rw [← hW1]; exact hgr0.os, by rw [← hW1]; exact hgr0.tape, by rw [← hW1]; exact hgr0.output, by rw [hs1]; simp; omega, fun b hb hne => ?_⟩
        rw [hs1, (MapKept.heap_set hg0).2 b (fun e => hne (by rw [e]))]
        exact hgr0.block b hb hne
    rw [hW1] at hp
    unfold trV trC at hl hp
    unfold trC at hW0
    unfold trV trC
    have hlen : ∀ ty, (Builtin.len_ #[75] ty #[.map (some r)]).run Try.prog W0 = .ok (.int .i64 (ks.length : Int)) W0 := fun ty => by
      simp [Builtin.len_, run_underlying hm, MapKept.run_getObj_map hg0, goInt, Result.andThen, hn2]
    clear hc hf hm x0 hgr0 hc0 hn2 hg2 hW1 hs1
    go_enter Try.func37, Try.ntmps37
    go_wp2
    refine bodyPost_ret (v := .tuple #[.int .i64 (ks.length : Int), .bool true]) (by simp [results, Try.results37, go_sem]) rfl HN.out
end Go.Proofs.Ytgbdlgogccgciaa
