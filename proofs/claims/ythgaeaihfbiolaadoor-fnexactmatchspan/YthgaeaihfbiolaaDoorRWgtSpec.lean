import Derived.Test.YthgaeaihfbiolaaDoorWgtW
namespace Go.Proofs.YthgaeaihfbiolaaDoor
open Go.RowKit

/-- Every branch works out. -/
def AllOK (bs : List BranchD) : Prop := ∀ i, i < bs.length → kidsB (bs.getD i .zero).nodes = true ∧ (bs.getD i .zero).nodes.all nodeB = true
def wLast (b : BranchD) : Int := wOf b.nodes (b.nodes.length - 1)
def ruleW : List BranchD → Int
  | [] => 0
  | b :: bs => wLast b + ruleW bs
theorem ruleW_take (bs : List BranchD) (k : Nat) (hk : k < bs.length) : ruleW (bs.take (k + 1)) = ruleW (bs.take k) + wLast (bs.getD k .zero) := by
  induction bs generalizing k with
  | nil => exact absurd hk (Nat.not_lt_zero _)
  | cons b bs ih =>
    cases k with
    | zero => simp [ruleW, List.getD]
    | succ k =>
      have := ih k (by simpa using hk)
      simp only [List.take_succ_cons, ruleW, List.getD_cons_succ] at this ⊢
      omega
theorem wLast_bd {b : BranchD} (hk : kidsB b.nodes = true) (har : ∀ i, i < b.nodes.length → arity (kindAt b.nodes i) ≤ (stk b.nodes i).length) (hb : b.nodes.all nodeB = true) : 1 ≤ wLast b ∧ wLast b ≤ 2001 := by
  obtain ⟨hp, _⟩ := liftF_ok b.nodes hk har hb
  exact wOf_bd b.nodes har hb (b.nodes.length) (b.nodes.length - 1) (by omega) (by omega)

/-- Where the order works out, no node lacks its parts. -/
theorem kidsD_ar : ∀ (ns pre : List NodeD) (d : Nat), kidsD ns (stk (pre ++ ns) pre.length).length = some d → ∀ i, pre.length ≤ i → i < pre.length + ns.length → arity (kindAt (pre ++ ns) i) ≤ (stk (pre ++ ns) i).length
  | [], pre, _, _, i, h1, h2 => by simp at h2; omega
  | n :: ns, pre, d, h, i, h1, h2 => by
    have hkind : kindAt (pre ++ n :: ns) pre.length = n.kind := by simp [kindAt, List.getD_eq_getElem?_getD]
    unfold kidsD at h
    by_cases hc : (stk (pre ++ n :: ns) pre.length).length < arity n.kind
    · rw [if_pos hc] at h; cases h
    · rw [if_neg hc] at h
      by_cases e : i = pre.length
      · subst e; rw [hkind]; omega
      · have e1 : pre ++ n :: ns = (pre ++ [n]) ++ ns := by simp
        have hl := stk_len (pre ++ n :: ns) pre.length
        rw [hkind] at hl
        rw [← hl] at h
        have := kidsD_ar ns (pre ++ [n]) d (by rw [← e1]; simpa using h) i (by simp; omega) (by simp at h2 ⊢; omega)
        rwa [← e1] at this
theorem kidsB_ar {ns : List NodeD} (h : kidsB ns = true) : ∀ i, i < ns.length → arity (kindAt ns i) ≤ (stk ns i).length := by
  intro i hi
  unfold kidsB at h
  exact kidsD_ar ns [] 1 (eq_of_beq h) i (Nat.zero_le _) (by simpa using hi)

theorem ruleW_bd {bs : List BranchD} (h : AllOK bs) : ∀ k, k ≤ bs.length → 0 ≤ ruleW (bs.take k) ∧ ruleW (bs.take k) ≤ k * 2001
  | 0, _ => by simp [ruleW]
  | k + 1, hk => by
    have h1 := ruleW_bd h k (by omega)
    obtain ⟨h2, h3⟩ := h k (by omega)
    have h4 := wLast_bd h2 (kidsB_ar h2) h3
    rw [ruleW_take bs k (by omega)]
    omega

set_option maxRecDepth 100000 in
set_option maxHeartbeats 1000000 in
theorem ruleWeight_ok {lo : Nat} (G : Int) (v : Value) (bs : List BranchD) (w : World) (hs : BranchesAt lo w v bs) (hsm : Small bs) (hok : AllOK bs) :
    Calls Tryd.prog 49 #[.agg #[v, .int .i64 G]] w fun e w' => e = .returned (.int .i64 (ruleW bs)) ∧ Below w.heap.size w w' := by
  obtain ⟨ao, cap, rfl, hm, hc⟩ := hs
  have hn := hsm.1
  have Hok : Hid _ := hok
  clear hok
  go_enter Tryd.func49, Tryd.ntmps49
  go_wp2
  go_loopw [3, 9] (fun s i wr => ∃ k : Nat, k ≤ bs.length ∧ i = .int .i64 k ∧ s = .int .i64 (ruleW (bs.take k)) ∧ Below w.heap.size w wr)
    (fun _ i _ => bs.length - (intOf i).toNat)
  case atStart => exact ⟨0, Nat.zero_le _, rfl, rfl, (Below.refl _ _).alloc (Nat.le_refl _) _⟩
  case round =>
    obtain ⟨k, hk, rfl, rfl, hb⟩ := hrel
    have hrb := ruleW_bd Hok.out k hk
    by_cases hlt : k < bs.length
    · obtain ⟨b, o, nv, bd, rfl, Hn, hbl, c0, c1, c2, hnv⟩ := hc.elem hb hlt
      have hnl : bd.nodes.length ≤ 1048576 := by have := (hsm.2 k hlt).1; rw [Hn.out] at this; exact this
      have hkb : kidsB bd.nodes = true := by have := (Hok.out k hlt).1; rw [Hn.out] at this; exact this
      have hab : bd.nodes.all nodeB = true := by have := (Hok.out k hlt).2; rw [Hn.out] at this; exact this
      have hwl := wLast_bd hkb (kidsB_ar hkb) hab
      obtain ⟨nao, ncp, rfl, hnm, hnc⟩ := hnv
      have hba : Below w.heap.size w (wr.alloc (.cells #[.bool bd.bol, .bool bd.eol, .slice nao bd.nodes.length ncp] 37)) := hb.alloc hb.size _
      have hnva : NodesAt lo (wr.alloc (.cells #[.bool bd.bol, .bool bd.eol, .slice nao bd.nodes.length ncp] 37)) (.slice nao bd.nodes.length ncp) bd.nodes := NodesAt.below ⟨_, _, rfl, hnm, hnc⟩ ((Below.refl _ _).alloc (Nat.le_refl _) _)
      have HT : Hid _ := ruleW_take bs k hlt
      rw [Hn.out] at HT
      generalize ruleW (bs.take k) = s at *
      have HL : Hid (wOf bd.nodes (bd.nodes.length - 1) = wLast bd) := rfl
      go_wp2_with fail
      refine (weight_ok _ bd.nodes _ hnva hnl hkb hab).mono ?_
      rintro e w2 ⟨rfl, hb2⟩
      rw [HL.out]
      clear hkb hab
      generalize wLast bd = wl at *
      have hwr : IntKind.i64.wrap (s + wl) = s + wl := by rw [IntKind.wrap_i64]; omega
      go_wp2
      go_roundw
      case rel => exact ⟨k + 1, by omega, by go_num, by rw [HT.out], below_step hba hba.size hb2⟩
      case measure => simp [intOf]; omega
    · go_wp2
      go_ret
      exact ⟨ret_int (by rw [List.take_of_length_le (by omega)]), hb⟩
end Go.Proofs.YthgaeaihfbiolaaDoor
namespace Go.Proofs.YthgaeaihfbiolaaDoor
open Go.RowKit

def allB (bs : List BranchD) : Bool := bs.all fun b => kidsB b.nodes && b.nodes.all nodeB
def onceB (G : Int) (gs : List Int) : Bool := (List.range G.toNat).all fun i => gs.count ((i : Int) + 1) == 1
def specB (G : Int) (bs : List BranchD) : Bool :=
  decide (1 ≤ bs.length ∧ bs.length ≤ 2000) && decide (0 ≤ G ∧ G ≤ 500) && decide (nodeCount bs ≤ 5000) && allB bs && (((allGrp bs).length : Int) == G) && onceB G (allGrp bs) && decide (ruleW bs ≤ 2000)

theorem grp_take (ns : List NodeD) (j : Nat) (hj : j < ns.length) (nd : NodeD) (h : ns.getD j .zero = nd) : grp (ns.take (j + 1)) = grp (ns.take j) ++ (if nd.kind = 5 then [nd.group] else []) := by
  induction ns generalizing j with
  | nil => exact absurd hj (Nat.not_lt_zero _)
  | cons n ns ih =>
    cases j with
    | zero =>
      have : n = nd := by simpa [List.getD] using h
      subst this
      simp only [List.take_succ_cons, List.take_zero, grp, List.nil_append]
    | succ j =>
      have := ih j (by simpa using hj) (by simpa [List.getD] using h)
      simp only [List.take_succ_cons, grp] at this ⊢
      rw [this]
      split <;> simp
theorem allGrp_take (bs : List BranchD) (k : Nat) (hk : k < bs.length) (bd : BranchD) (h : bs.getD k .zero = bd) : allGrp (bs.take (k + 1)) = allGrp (bs.take k) ++ grp bd.nodes := by
  induction bs generalizing k with
  | nil => exact absurd hk (Nat.not_lt_zero _)
  | cons b bs ih =>
    cases k with
    | zero =>
      have : b = bd := by simpa [List.getD] using h
      subst this
      simp [allGrp]
    | succ k =>
      have := ih k (by simpa using hk) (by simpa [List.getD] using h)
      simp only [List.take_succ_cons, allGrp] at this ⊢
      rw [this, List.append_assoc]
theorem grp_len : ∀ ns : List NodeD, (grp ns).length ≤ ns.length
  | [] => Nat.le_refl _
  | n :: ns => by have := grp_len ns; unfold grp; split <;> simp <;> omega
theorem allGrp_len : ∀ bs : List BranchD, (allGrp bs).length ≤ nodeCount bs
  | [] => Nat.le_refl _
  | b :: bs => by have := allGrp_len bs; have := grp_len b.nodes; unfold allGrp nodeCount; simp; omega
theorem nodeCount_le (bs : List BranchD) (k : Nat) : nodeCount (bs.take k) ≤ nodeCount bs := by
  induction bs generalizing k with
  | nil => simp
  | cons b bs ih =>
    cases k with
    | zero => simp [nodeCount]
    | succ k => have := ih k; simp only [List.take_succ_cons, nodeCount]; omega
theorem allB_at (bs : List BranchD) (k : Nat) (hk : k < bs.length) (bd : BranchD) (h : bs.getD k .zero = bd) (hf : (kidsB bd.nodes && bd.nodes.all nodeB) = false) : allB bs = false := by
  unfold allB
  rw [List.all_eq_false]
  refine ⟨bs[k], List.getElem_mem _, ?_⟩
  have : bs[k] = bd := by rw [← h]; simp [List.getD, hk]
  rw [this, hf]
  simp
theorem allB_take (bs : List BranchD) (k : Nat) (hk : k < bs.length) (bd : BranchD) (h : bs.getD k .zero = bd) (ht : allB (bs.take k) = true) (hf : (kidsB bd.nodes && bd.nodes.all nodeB) = true) : allB (bs.take (k + 1)) = true := by
  unfold allB at *
  rw [List.take_succ_eq_append_getElem hk, List.all_append, ht]
  have : bs[k] = bd := by rw [← h]; simp [List.getD, hk]
  simp only [List.all_cons, List.all_nil, this, hf, Bool.and_true]
theorem nodes_false (ns : List NodeD) (j : Nat) (hj : j < ns.length) (nd : NodeD) (h : ns.getD j .zero = nd) (hf : nodeB nd = false) : ns.all nodeB = false := by
  rw [List.all_eq_false]
  refine ⟨ns[j], List.getElem_mem _, ?_⟩
  have : ns[j] = nd := by rw [← h]; simp [List.getD, hj]
  rw [this, hf]
  simp
theorem nodes_take (ns : List NodeD) (j : Nat) (hj : j < ns.length) (nd : NodeD) (h : ns.getD j .zero = nd) (ht : (ns.take j).all nodeB = true) (hf : nodeB nd = true) : (ns.take (j + 1)).all nodeB = true := by
  rw [List.take_succ_eq_append_getElem hj, List.all_append, ht]
  have : ns[j] = nd := by rw [← h]; simp [List.getD, hj]
  simp only [List.all_cons, List.all_nil, this, hf, Bool.and_true]
theorem allB_ok {bs : List BranchD} (h : allB bs = true) : AllOK bs := by
  intro i hi
  have := List.all_eq_true.1 h (bs.getD i .zero) (by
    rw [List.getD_eq_getElem?_getD, List.getElem?_eq_getElem hi]
    exact List.getElem_mem _)
  simpa using this
theorem count_take (gs : List Int) (j : Nat) (hj : j < gs.length) (x : Int) : (gs.take (j + 1)).count x = (gs.take j).count x + (if gs.getD j 0 = x then 1 else 0) := by
  rw [List.take_succ_eq_append_getElem hj, List.count_append]
  simp [List.getD, hj, List.count_cons]

def rowG (gs : List Int) : List Value := gs.map (Value.int .i64)
theorem rowG_snoc (gs : List Int) (x : Int) : rowG (gs ++ [x]) = rowG gs ++ [.int .i64 x] := by simp [rowG]
theorem rowG_get (gs : List Int) (i : Nat) (h : i < gs.length) : (rowG gs)[i]? = some (.int .i64 (gs.getD i 0)) := by simp [rowG, h, List.getD]

structure RInv (w wr : World) (v : Value) (G : Int) (gg cc : Nat) (gs : List Int) : Prop where
  below : Below w.heap.size w wr
  box0 : wr.cell? ⟨w.heap.size, 0, none⟩ = some v
  box1 : wr.cell? ⟨w.heap.size, 1, none⟩ = some (.int .i64 G)
  row : wr.ownsRow (w.heap.size + 1) 3 1 (.slice (some ⟨gg, 0, none⟩) gs.length cc) gs.length (rowG gs)
  size : w.heap.size + 1 ≤ wr.heap.size

theorem RInv.same {w wr w1 : World} {v : Value} {G : Int} {gg cc : Nat} {gs : List Int} (h : RInv w wr v G gg cc gs) (hb : Below wr.heap.size wr w1) : RInv w w1 v G gg cc gs :=
  ⟨below_step h.below (Nat.le_trans (Nat.le_succ _) h.size) hb, (hb.cell (by have := h.size; simp; omega)).trans h.box0, (hb.cell (by have := h.size; simp; omega)).trans h.box1, ownsRow_below h.row hb, Nat.le_trans h.size hb.size⟩
theorem RInv.alloc {w wr : World} {v : Value} {G : Int} {gg cc : Nat} {gs : List Int} (h : RInv w wr v G gg cc gs) (o : Obj) : RInv w (wr.alloc o) v G gg cc gs := h.same ((Below.refl _ _).alloc (Nat.le_refl _) _)
theorem RInv.grown {w wr w1 : World} {v : Value} {G : Int} {gg cc g' c' : Nat} {gs : List Int} {x : Int} (h : RInv w wr v G gg cc gs) (hg : wr.grownBy w1 (some gg)) (ho : w1.ownsRow (w.heap.size + 1) 3 1 (.slice (some ⟨g', 0, none⟩) (gs.length + 1) c') (gs.length + 1) (rowG gs ++ [.int .i64 x])) : RInv w w1 v G g' c' (gs ++ [x]) := by
  have hgg := (own_form h.row).1
  have hs := h.size
  refine ⟨h.below.grown hg (by omega) (by intro q hq; cases hq; omega), ?_, ?_, by simpa [rowG_snoc] using ho, Nat.le_trans h.size hg.size⟩
  · exact (hg.cell_far _ (by simp; omega) (by simp; omega)).trans h.box0
  · exact (hg.cell_far _ (by simp; omega) (by simp; omega)).trans h.box1
end Go.Proofs.YthgaeaihfbiolaaDoor
