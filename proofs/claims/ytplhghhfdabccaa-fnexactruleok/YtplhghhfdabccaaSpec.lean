import Derived.Test.YtplhghhfdabccaaRWgt
namespace Go.Proofs.Ytplhghhfdabccaa
open Go.RowKit

def allB (bs : List BranchD) : Bool := bs.all fun b => kidsB b.nodes && b.nodes.all nodeB
def onceB (G : Int) (gs : List Int) : Bool := (List.range G.toNat).all fun i => gs.count ((i : Int) + 1) == 1
def specB (G : Int) (bs : List BranchD) : Bool :=
  decide (1 ≤ bs.length ∧ bs.length ≤ 2000) && decide (0 ≤ G ∧ G ≤ 500) && decide (nodeCount bs ≤ 5000) && allB bs && (((allGrp bs).length : Int) == G) && onceB G (allGrp bs) && decide (ruleW bs ≤ 2000)

theorem grp_take (ns : List NodeD) (j : Nat) (hj : j < ns.length) (nd : NodeD) (h : ns.getD j .zero = nd) : grp (ns.take (j + 1)) = grp (ns.take j) ++ (if nd.kind = 5 then [nd.group] else []) := by
  induction ns generalizing j with
  | nil => exact absurd hj (Nat.not_lt_zero _)
  | cons n ns ih =>
    cases j with
    | zero =>
      have : n = nd := by simpa [List.getD] using h
      subst this
      simp only [List.take_succ_cons, List.take_zero, grp, List.nil_append]
    | succ j =>
      have := ih j (by simpa using hj) (by simpa [List.getD] using h)
      simp only [List.take_succ_cons, grp] at this ⊢
      rw [this]
      split <;> simp
theorem allGrp_take (bs : List BranchD) (k : Nat) (hk : k < bs.length) (bd : BranchD) (h : bs.getD k .zero = bd) : allGrp (bs.take (k + 1)) = allGrp (bs.take k) ++ grp bd.nodes := by
  induction bs generalizing k with
  | nil => exact absurd hk (Nat.not_lt_zero _)
  | cons b bs ih =>
    cases k with
    | zero =>
      have : b = bd := by simpa [List.getD] using h
      subst this
      simp [allGrp]
    | succ k =>
      have := ih k (by simpa using hk) (by simpa [List.getD] using h)
      simp only [List.take_succ_cons, allGrp] at this ⊢
      rw [this, List.append_assoc]
theorem grp_len : ∀ ns : List NodeD, (grp ns).length ≤ ns.length
  | [] => Nat.le_refl _
  | n :: ns => by have := grp_len ns; unfold grp; split <;> simp <;> omega
theorem allGrp_len : ∀ bs : List BranchD, (allGrp bs).length ≤ nodeCount bs
  | [] => Nat.le_refl _
  | b :: bs => by have := allGrp_len bs; have := grp_len b.nodes; unfold allGrp nodeCount; simp; omega
theorem nodeCount_le (bs : List BranchD) (k : Nat) : nodeCount (bs.take k) ≤ nodeCount bs := by
  induction bs generalizing k with
  | nil => simp
  | cons b bs ih =>
    cases k with
    | zero => simp [nodeCount]
    | succ k => have := ih k; simp only [List.take_succ_cons, nodeCount]; omega
theorem allB_at (bs : List BranchD) (k : Nat) (hk : k < bs.length) (bd : BranchD) (h : bs.getD k .zero = bd) (hf : (kidsB bd.nodes && bd.nodes.all nodeB) = false) : allB bs = false := by
  unfold allB
  rw [List.all_eq_false]
  refine ⟨bs[k], List.getElem_mem _, ?_⟩
  have : bs[k] = bd := by rw [← h]; simp [List.getD, hk]
  rw [this, hf]
  simp
theorem allB_take (bs : List BranchD) (k : Nat) (hk : k < bs.length) (bd : BranchD) (h : bs.getD k .zero = bd) (ht : allB (bs.take k) = true) (hf : (kidsB bd.nodes && bd.nodes.all nodeB) = true) : allB (bs.take (k + 1)) = true := by
  unfold allB at *
  rw [List.take_succ_eq_append_getElem hk, List.all_append, ht]
  have : bs[k] = bd := by rw [← h]; simp [List.getD, hk]
  simp only [List.all_cons, List.all_nil, this, hf, Bool.and_true]
theorem nodes_false (ns : List NodeD) (j : Nat) (hj : j < ns.length) (nd : NodeD) (h : ns.getD j .zero = nd) (hf : nodeB nd = false) : ns.all nodeB = false := by
  rw [List.all_eq_false]
  refine ⟨ns[j], List.getElem_mem _, ?_⟩
  have : ns[j] = nd := by rw [← h]; simp [List.getD, hj]
  rw [this, hf]
  simp
theorem nodes_take (ns : List NodeD) (j : Nat) (hj : j < ns.length) (nd : NodeD) (h : ns.getD j .zero = nd) (ht : (ns.take j).all nodeB = true) (hf : nodeB nd = true) : (ns.take (j + 1)).all nodeB = true := by
  rw [List.take_succ_eq_append_getElem hj, List.all_append, ht]
  have : ns[j] = nd := by rw [← h]; simp [List.getD, hj]
  simp only [List.all_cons, List.all_nil, this, hf, Bool.and_true]
theorem allB_ok {bs : List BranchD} (h : allB bs = true) : AllOK bs := by
  intro i hi
  have := List.all_eq_true.1 h (bs.getD i .zero) (by
    rw [List.getD_eq_getElem?_getD, List.getElem?_eq_getElem hi]
    exact List.getElem_mem _)
  simpa using this
theorem count_take (gs : List Int) (j : Nat) (hj : j < gs.length) (x : Int) : (gs.take (j + 1)).count x = (gs.take j).count x + (if gs.getD j 0 = x then 1 else 0) := by
  rw [List.take_succ_eq_append_getElem hj, List.count_append]
  simp [List.getD, hj, List.count_cons]

def rowG (gs : List Int) : List Value := gs.map (Value.int .i64)
theorem rowG_snoc (gs : List Int) (x : Int) : rowG (gs ++ [x]) = rowG gs ++ [.int .i64 x] := by simp [rowG]
theorem rowG_get (gs : List Int) (i : Nat) (h : i < gs.length) : (rowG gs)[i]? = some (.int .i64 (gs.getD i 0)) := by simp [rowG, h, List.getD]

structure RInv (w wr : World) (v : Value) (G : Int) (gg cc : Nat) (gs : List Int) : Prop where
  below : Below w.heap.size w wr
  box0 : wr.cell? ⟨w.heap.size, 0, none⟩ = some v
  box1 : wr.cell? ⟨w.heap.size, 1, none⟩ = some (.int .i64 G)
  row : wr.ownsRow (w.heap.size + 1) 3 1 (.slice (some ⟨gg, 0, none⟩) gs.length cc) gs.length (rowG gs)
  size : w.heap.size + 1 ≤ wr.heap.size

theorem RInv.same {w wr w1 : World} {v : Value} {G : Int} {gg cc : Nat} {gs : List Int} (h : RInv w wr v G gg cc gs) (hb : Below wr.heap.size wr w1) : RInv w w1 v G gg cc gs :=
  ⟨below_step h.below (Nat.le_trans (Nat.le_succ _) h.size) hb, (hb.cell (by have := h.size; simp; omega)).trans h.box0, (hb.cell (by have := h.size; simp; omega)).trans h.box1, ownsRow_below h.row hb, Nat.le_trans h.size hb.size⟩
theorem RInv.alloc {w wr : World} {v : Value} {G : Int} {gg cc : Nat} {gs : List Int} (h : RInv w wr v G gg cc gs) (o : Obj) : RInv w (wr.alloc o) v G gg cc gs := h.same ((Below.refl _ _).alloc (Nat.le_refl _) _)
theorem RInv.grown {w wr w1 : World} {v : Value} {G : Int} {gg cc g' c' : Nat} {gs : List Int} {x : Int} (h : RInv w wr v G gg cc gs) (hg : wr.grownBy w1 (some gg)) (ho : w1.ownsRow (w.heap.size + 1) 3 1 (.slice (some ⟨g', 0, none⟩) (gs.length + 1) c') (gs.length + 1) (rowG gs ++ [.int .i64 x])) : RInv w w1 v G g' c' (gs ++ [x]) := by
  have hgg := (own_form h.row).1
  have hs := h.size
  refine ⟨h.below.grown hg (by omega) (by intro q hq; cases hq; omega), ?_, ?_, by simpa [rowG_snoc] using ho, Nat.le_trans h.size hg.size⟩
  · exact (hg.cell_far _ (by simp; omega) (by simp; omega)).trans h.box0
  · exact (hg.cell_far _ (by simp; omega) (by simp; omega)).trans h.box1
end Go.Proofs.Ytplhghhfdabccaa
