import Derived.Test.YtgbdlgogccgciaaDfaS
import Derived.Test.YtgbdlgogccgciaaRowRun
import Derived.ProofKit
import Derived.Deep.Slices
import Derived.Deep.Strs
import Derived.Lib.SmallJoins
import Derived.Test.YtgbdlgogccgciaaRows
import Derived.Test.YtgbdlgogccgciaaMinLaw
import Derived.ChangeMaps5
namespace Go.Proofs.Ytgbdlgogccgciaa
open Go.RowKit Go.ChangeShapes Go.WideShapes Go.ChangeAt

theorem Try.cellsInt : Try.prog.cellsOf 3 = 1 := by kernel_rfl
theorem Try.cellsIntS : Try.prog.cellsOf 22 = 1 := by kernel_rfl
theorem Try.cellsDfa : Try.prog.cellsOf 24 = 5 := by kernel_rfl

theorem array5 {α : Type} {cs : Array α} (h : cs.size = 5) : ∃ c0 c1 c2 c3 c4, cs = #[c0, c1, c2, c3, c4] := by
  obtain ⟨l⟩ := cs
  match l, h with
  | [c0, c1, c2, c3, c4], _ => exact ⟨c0, c1, c2, c3, c4, rfl⟩

section
variable {H : Type} {enc : TypeId × Value → H} {W : World} {spare : Nat → Bool} {held : Bool}

theorem read_ints {fuel : Nat} {c : Value} {x : DataW H × List MemPlace} (h : DataW.trod enc Try.prog W 0 spare held fuel 22 [c] = some x) : ∃ xs, IntsAt 0 W c xs := by
  rcases Go.Deep.open_slice Try.underlying22 h with ⟨hc, _⟩ | ⟨a, len, cap, m, n, D, Pl, hc, _, hlc, hcm, hmm, _, hx⟩
  · simp only [List.cons.injEq, and_true] at hc
    exact ⟨[], none, 0, hc, by simp, fun h0 => absurd h0 (Nat.not_lt_zero _)⟩
  · simp only [List.cons.injEq, and_true] at hc
    have hlm : len ≤ m := by rw [hmm]; split <;> omega
    rw [Try.cellsInt] at hx
    rcases Nat.eq_zero_or_pos len with h0 | h0
    · subst h0
      exact ⟨[], some a, cap, hc, by simp, fun h0 => absurd h0 (Nat.not_lt_zero _)⟩
    · obtain ⟨b, o, C, rfl, hb, hC⟩ := open_rows (W := W) (a := a) (len := len) (sz := 1) (E := fun cs => ∃ r : Int, cs = [.int .i64 r]) (by omega) (fun i hi => by
        obtain ⟨cs', h1, h2⟩ := hx i (by omega)
        obtain ⟨k, he, _, _⟩ := DataW.trod_int Try.underlying3 h2
        exact ⟨cs', h1, k, he⟩) h0
      obtain ⟨F, hF⟩ := Go.Deep.choose_lt (α := Int) (p := fun i r => C i = [.int .i64 r]) (fun i hi => (hC i hi).1)
      refine ⟨(List.range len).map F, some ⟨b, o, none⟩, cap, by rw [hc]; simp, by simp; exact maxLen_num (Nat.le_trans hlc hcm), fun _ => ⟨b, o, rfl, Nat.zero_le _, hb, fun i hi => ?_⟩⟩
      have hi' : i < len := by simpa using hi
      rw [range_map_get F 0 len i hi']
      have q0 := (hC i hi').2 0 (by omega)
      rw [hF i hi'] at q0
      simpa using q0

set_option maxRecDepth 100000 in
/-- An automaton handed in by value. -/
theorem open_dfa {r : Reach} {b0 : Nat} {v : Value} {d : DataW H} {p : List MemPlace} (hv : Value.okWide Try.prog W r b0 24 v) (h : DataW.Trod enc Try.prog W 0 spare held 24 v d p) :
    ∃ (cv nv tv ev : Value) (D : DfaD), v = .agg #[cv, .int .i64 D.width, nv, tv, ev] ∧ DfaAt 0 W cv nv tv ev D := by
  obtain ⟨cs, rfl, hsz⟩ := okWide_struct Try.underlying24 hv
  obtain ⟨c0, c1, c2, c3, c4, rfl⟩ := array5 (hsz.trans Try.cellsDfa)
  obtain ⟨fuel, hf0⟩ := h
  obtain ⟨xs, n, _, _, _, hlen, hf⟩ := DataW.trod_struct Try.underlying24 hf0
  obtain ⟨y0, y1, y2, y3, y4, rfl⟩ := list5 (show xs.length = 5 from hlen)
  have f0 := hf 0 _ rfl
  have f1 := hf 1 _ rfl
  have f2 := hf 2 _ rfl
  have f3 := hf 3 _ rfl
  have f4 := hf 4 _ rfl
  simp [Try.cellsInt, Try.cellsIntS, Value.cells] at f0 f1 f2 f3 f4
  obtain ⟨cl, hcl⟩ := read_ints f0
  obtain ⟨wd, e1, _, _⟩ := DataW.trod_int Try.underlying3 f1
  obtain ⟨nx, hnx⟩ := read_ints f2
  obtain ⟨tg, htg⟩ := read_ints f3
  obtain ⟨en, hen⟩ := read_ints f4
  simp only [List.cons.injEq, and_true] at e1
  exact ⟨c0, c2, c3, c4, ⟨cl, wd, nx, tg, en⟩, by rw [e1], hcl, hnx, htg, hen⟩
end
end Go.Proofs.Ytgbdlgogccgciaa
namespace Go.Proofs.Ytgbdlgogccgciaa
open Go.ChangeShapes Go.WideShapes Go.ChangeAt Go.RowKit Go.Joins

theorem Try.own : ownKnob Try.prog.godebug = none := by kernel_rfl
theorem Try.laidOut : laidOutB Try.prog = true := by kernel_rfl

set_option maxRecDepth 100000 in
theorem fnExactMinimize_lifted (os : Os) (started : os.Started) (H : Type) (enc : TypeId × Value → H) :
    ReturnsInHanded {} Try.checked os 3 .any (Rows.fnExactMinimizeSpec.pre6 enc Try.prog Try.f3 Rows.fnExactMinimizeRow.domain false) (Rows.fnExactMinimizeSpec.post enc Try.prog Try.f3 false true false false) := by
  refine returnsInHanded_of_change (C := Try.checked) Try.own started (by kernel_rfl) Try.func3
    (ChangeSpec.witness6 (enc := enc) (C := Try.checked) false ⟨#[], #[.agg #[.slice none 0 0, .int .i64 0, .slice none 0 0, .slice none 0 0, .slice none 0 0]], []⟩ 8 (by kernel_rfl) (by kernel_rfl) (by kernel_rfl) (by kernel_rfl)) ?_
  intro W base args ds gs before hval0 hW hcnd _
  have hval : ∀ (j : Nat) t v, Try.f3.params[j]? = some t → args[j]? = some v → Value.okWide Try.prog W .any base t v := hval0
  have hW' := hW
  obtain ⟨p, q, hA0, hV, rfl, hfz, hnd⟩ := hW
  have hA : DataW.TrodAll enc Try.prog W 0 (fun _ => true) true Try.f3.params.toList args.toList ds p := hA0
  rw [Try.params3] at hA hval
  obtain ⟨v0, vs0, d0, ds0, p0, q0, hargs, rfl, rfl, h0, r0⟩ := trodAll_cons hA
  obtain ⟨rfl, rfl, rfl⟩ := trodAll_nil r0
  obtain rfl : args = #[v0] := by cases args; simp_all
  obtain ⟨rfl, rfl⟩ := trodVars_none hV
  have k0 := h0
  have lt0 : ∀ x ∈ p0, x.block < W.heap.size := by obtain ⟨m, hm⟩ := k0; exact DataW.trod_lt m _ _ _ hm
  obtain ⟨cv, nv, tv, ev, D, rfl, hD⟩ := open_dfa (hval 0 24 v0 rfl rfl) h0
  clear hA0 hval0
  refine (lawMinimize_ok cv nv tv ev D W hD).mono fun e W' ⟨he, bel⟩ => ?_
  subst he
  exact ⟨_, rfl, _, _, _, [], _, [], hW', trodAll_mk1 (shut_bool Try.underlying4 _), (trodAll_cons_mk (Below.trod Try.laidOut (by kernel_rfl) (of_decide_eq_true (by kernel_rfl)) k0 bel lt0) trodAll_mk0), rfl, bel.frame _, fun h => by cases h⟩

theorem fnExactMinimize_holds : Rows.FnExactMinimizeSaid :=
  OpenClaim.holds_of_wide 3 Try.f3 rfl rfl rfl rfl rfl rfl rfl ⟨rfl, rfl, rfl, rfl, rfl⟩ rfl rfl rfl rfl rfl (by kernel_rfl) Try.func3 (by kernel_rfl)
    (of_decide_eq_true (by kernel_rfl)) (by unfold Func.isWrapper; first | (rw [if_pos (by decide +kernel)]; kernel_rfl) | (rw [if_neg (by decide +kernel)]; exact ⟨rfl, rfl⟩))
    (fun os started H enc _ => fnExactMinimize_lifted os started H enc)
#print axioms fnExactMinimize_holds
end Go.Proofs.Ytgbdlgogccgciaa
