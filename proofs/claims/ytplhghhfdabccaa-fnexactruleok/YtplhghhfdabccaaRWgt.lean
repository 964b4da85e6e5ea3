import Derived.Test.YtplhghhfdabccaaWgtW
namespace Go.Proofs.Ytplhghhfdabccaa
open Go.RowKit

/-- Every branch works out. -/
def AllOK (bs : List BranchD) : Prop := ∀ i, i < bs.length → kidsB (bs.getD i .zero).nodes = true ∧ (bs.getD i .zero).nodes.all nodeB = true
def wLast (b : BranchD) : Int := wOf b.nodes (b.nodes.length - 1)
def ruleW : List BranchD → Int
  | [] => 0
  | b :: bs => wLast b + ruleW bs
theorem ruleW_take (bs : List BranchD) (k : Nat) (hk : k < bs.length) : ruleW (bs.take (k + 1)) = ruleW (bs.take k) + wLast (bs.getD k .zero) := by
  induction bs generalizing k with
  | nil => exact absurd hk (Nat.not_lt_zero _)
  | cons b bs ih =>
    cases k with
    | zero => simp [ruleW, List.getD]
    | succ k =>
      have := ih k (by simpa using hk)
      simp only [List.take_succ_cons, ruleW, List.getD_cons_succ] at this ⊢
      omega
theorem wLast_bd {b : BranchD} (hk : kidsB b.nodes = true) (har : ∀ i, i < b.nodes.length → arity (kindAt b.nodes i) ≤ (stk b.nodes i).length) (hb : b.nodes.all nodeB = true) : 1 ≤ wLast b ∧ wLast b ≤ 2001 := by
  obtain ⟨hp, _⟩ := liftF_ok b.nodes hk har hb
  exact wOf_bd b.nodes har hb (b.nodes.length) (b.nodes.length - 1) (by omega) (by omega)

/-- Where the order works out, no node lacks its parts. -/
theorem kidsD_ar : ∀ (ns pre : List NodeD) (d : Nat), kidsD ns (stk (pre ++ ns) pre.length).length = some d → ∀ i, pre.length ≤ i → i < pre.length + ns.length → arity (kindAt (pre ++ ns) i) ≤ (stk (pre ++ ns) i).length
  | [], pre, _, _, i, h1, h2 => by simp at h2; omega
  | n :: ns, pre, d, h, i, h1, h2 => by
    have hkind : kindAt (pre ++ n :: ns) pre.length = n.kind := by simp [kindAt, List.getD_eq_getElem?_getD]
    unfold kidsD at h
    by_cases hc : (stk (pre ++ n :: ns) pre.length).length < arity n.kind
    · rw [if_pos hc] at h; cases h
    · rw [if_neg hc] at h
      by_cases e : i = pre.length
      · subst e; rw [hkind]; omega
      · have e1 : pre ++ n :: ns = (pre ++ [n]) ++ ns := by simp
        have hl := stk_len (pre ++ n :: ns) pre.length
        rw [hkind] at hl
        rw [← hl] at h
        have := kidsD_ar ns (pre ++ [n]) d (by rw [← e1]; simpa using h) i (by simp; omega) (by simp at h2 ⊢; omega)
        rwa [← e1] at this
theorem kidsB_ar {ns : List NodeD} (h : kidsB ns = true) : ∀ i, i < ns.length → arity (kindAt ns i) ≤ (stk ns i).length := by
  intro i hi
  unfold kidsB at h
  exact kidsD_ar ns [] 1 (eq_of_beq h) i (Nat.zero_le _) (by simpa using hi)

theorem ruleW_bd {bs : List BranchD} (h : AllOK bs) : ∀ k, k ≤ bs.length → 0 ≤ ruleW (bs.take k) ∧ ruleW (bs.take k) ≤ k * 2001
  | 0, _ => by simp [ruleW]
  | k + 1, hk => by
    have h1 := ruleW_bd h k (by omega)
    obtain ⟨h2, h3⟩ := h k (by omega)
    have h4 := wLast_bd h2 (kidsB_ar h2) h3
    rw [ruleW_take bs k (by omega)]
    omega

set_option maxRecDepth 100000 in
set_option maxHeartbeats 1000000 in
theorem ruleWeight_ok {lo : Nat} (G : Int) (v : Value) (bs : List BranchD) (w : World) (hs : BranchesAt lo w v bs) (hsm : Small bs) (hok : AllOK bs) :
    Calls Try.prog 57 #[.agg #[v, .int .i64 G]] w fun e w' => e = .returned (.int .i64 (ruleW bs)) ∧ Below w.heap.size w w' := by
  obtain ⟨ao, cap, rfl, hm, hc⟩ := hs
  have hn := hsm.1
  have Hok : Hid _ := hok
  clear hok
  go_enter Try.func57, Try.ntmps57
  go_wp2
  go_loopw [3, 9] (fun s i wr => ∃ k : Nat, k ≤ bs.length ∧ i = .int .i64 k ∧ s = .int .i64 (ruleW (bs.take k)) ∧ Below w.heap.size w wr)
    (fun _ i _ => bs.length - (intOf i).toNat)
  case atStart => exact ⟨0, Nat.zero_le _, rfl, rfl, (Below.refl _ _).alloc (Nat.le_refl _) _⟩
  case round =>
    obtain ⟨k, hk, rfl, rfl, hb⟩ := hrel
    have hrb := ruleW_bd Hok.out k hk
    by_cases hlt : k < bs.length
    · obtain ⟨b, o, nv, bd, rfl, Hn, hbl, c0, c1, c2, hnv⟩ := hc.elem hb hlt
      have hnl : bd.nodes.length ≤ 1048576 := by have := (hsm.2 k hlt).1; rw [Hn.out] at this; exact this
      have hkb : kidsB bd.nodes = true := by have := (Hok.out k hlt).1; rw [Hn.out] at this; exact this
      have hab : bd.nodes.all nodeB = true := by have := (Hok.out k hlt).2; rw [Hn.out] at this; exact this
      have hwl := wLast_bd hkb (kidsB_ar hkb) hab
      obtain ⟨nao, ncp, rfl, hnm, hnc⟩ := hnv
      have hba : Below w.heap.size w (wr.alloc (.cells #[.bool bd.bol, .bool bd.eol, .slice nao bd.nodes.length ncp] 83)) := hb.alloc hb.size _
      have hnva : NodesAt lo (wr.alloc (.cells #[.bool bd.bol, .bool bd.eol, .slice nao bd.nodes.length ncp] 83)) (.slice nao bd.nodes.length ncp) bd.nodes := NodesAt.below ⟨_, _, rfl, hnm, hnc⟩ ((Below.refl _ _).alloc (Nat.le_refl _) _)
      have HT : Hid _ := ruleW_take bs k hlt
      rw [Hn.out] at HT
      generalize ruleW (bs.take k) = s at *
      have HL : Hid (wOf bd.nodes (bd.nodes.length - 1) = wLast bd) := rfl
      go_wp2_with fail
      refine (weight_ok _ bd.nodes _ hnva hnl hkb hab).mono ?_
      rintro e w2 ⟨rfl, hb2⟩
      rw [HL.out]
      clear hkb hab
      generalize wLast bd = wl at *
      have hwr : IntKind.i64.wrap (s + wl) = s + wl := by rw [IntKind.wrap_i64]; omega
      go_wp2
      go_roundw
      case rel => exact ⟨k + 1, by omega, by go_num, by rw [HT.out], below_step hba hba.size hb2⟩
      case measure => simp [intOf]; omega
    · go_wp2
      go_ret
      exact ⟨ret_int (by rw [List.take_of_length_le (by omega)]), hb⟩
end Go.Proofs.Ytplhghhfdabccaa
