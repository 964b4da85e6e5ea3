import Derived.Test.YthgaeaihfbiolaaDoorEndsTreeA
import Derived.Deep.RegionHeld3
import Derived.Test.YthgaeaihfbiolaaDoorPosI
namespace Go.Proofs.YthgaeaihfbiolaaDoor
open Go.RowKit
attribute [local go_sem ↓] Go.wp_at_zero Go.wp_at_succ

theorem tree_iface {w : World} {v : Value} {p : Pt} (h : TreeAt w v p) : ∃ t x, v = .iface t x := by
  cases p with
  | set f => obtain ⟨_, rfl, _⟩ := h; exact ⟨_, _, rfl⟩
  | seq l r => obtain ⟨_, _, rfl, _⟩ := h; exact ⟨_, _, rfl⟩
  | alt l r => obtain ⟨_, _, rfl, _⟩ := h; exact ⟨_, _, rfl⟩
  | rep b m n => obtain ⟨_, rfl, _⟩ := h; exact ⟨_, _, rfl⟩
  | grp b g => obtain ⟨_, rfl, _⟩ := h; exact ⟨_, _, rfl⟩
theorem wPt_bd {w : World} : ∀ (p : Pt) (v : Value), TreeAt w v p → 1 ≤ wPt p ∧ wPt p ≤ 2001
  | .set _, _, _ => by simp [wPt]
  | .seq l r, _, ⟨_, _, _, h1, h2⟩ => capW_bd (by have := wPt_bd l _ h1; have := wPt_bd r _ h2; omega)
  | .alt l r, _, ⟨_, _, _, h1, h2⟩ => capW_bd (by have := wPt_bd l _ h1; have := wPt_bd r _ h2; omega)
  | .rep b mn mx, _, ⟨_, _, h1, h2⟩ => by
    have h3 := wPt_bd b _ h1
    have hc := copies_bd h2
    exact capW_bd (Int.mul_le_mul h3.1 hc.1 (by omega) (by omega) |> fun h => by simpa using h)
  | .grp b _, _, ⟨_, _, h1⟩ => wPt_bd b _ h1

def RepT (w : World) (p : Pt) (mn mx : Int) (e : Ending) (w' : World) : Prop :=
  ∃ t x p', e = .returned (.iface t x) ∧ TreeAt w' (.iface t x) p' ∧ wPt p' = capW (wPt p * copies mn mx) ∧ (∀ u, In p' u ↔ In (.rep p mn mx) u) ∧ Below w.heap.size w w'

theorem repeated_tree (v : Value) (p : Pt) (mn mx : Int) (w : World) (hT : TreeAt w v p) (hbd : boundsB mn mx = true) :
    Calls Tryd.prog 74 #[v, .int .i64 mn, .int .i64 mx] w fun e w' => RepT w p mn mx e w' := by
  have hwb := wPt_bd p v hT
  by_cases h1 : mn = 1 ∧ mx = 1
  · obtain ⟨rfl, rfl⟩ := h1
    obtain ⟨t, x, rfl⟩ := tree_iface hT
    exact (repeated_one _ w t x rfl).mono fun e w' h => ⟨t, x, p, h.1, TreeAt.keep (.of h.2) p _ hT, by rw [show copies 1 1 = 1 from rfl, Int.mul_one, capW_le hwb.2], fun u => (in_rep11 p u).symm, h.2⟩
  · have hnew : ∀ t x, otherType t x → v = .iface t x → Calls Tryd.prog 74 #[v, .int .i64 mn, .int .i64 mx] w fun e w' => RepT w p mn mx e w' := by
      intro t x ho hv
      subst hv
      exact (repeated_other t x ho mn mx w h1).mono fun e w' h => ⟨_, _, .rep p mn mx, h.1, ⟨_, rfl, TreeAt.keep (.of h.2) p _ hT, hbd⟩, rfl, fun _ => Iff.rfl, h.2⟩
    cases p with
    | set f => obtain ⟨_, e, _⟩ := hT; exact hnew _ _ (other_set _) e
    | seq l r => obtain ⟨_, _, e, _⟩ := hT; exact hnew _ _ (other_seq _) e
    | alt l r => obtain ⟨_, _, e, _⟩ := hT; exact hnew _ _ (other_alt _) e
    | grp b g => obtain ⟨_, e, _⟩ := hT; exact hnew _ _ (other_grp _) e
    | rep b imn imx =>
      clear hnew
      have hT0 := hT
      obtain ⟨l, rfl, hl, hb⟩ := hT
      obtain ⟨t, x, rfl⟩ := tree_iface hl
      have hb2 := (wPt_bd b _ hl).2
      refine (repeated_rep t x imn imx mn mx w h1).mono fun e w' h => ?_
      by_cases hc : loose imn imx = true ∧ loose mn mx = true
      · rw [if_pos hc] at h
        refine ⟨_, _, .rep b 0 (if imx ≤ mx then imx else mx), h.1, ⟨_, rfl, TreeAt.keep (.of h.2) b _ hl, loose_bounds (loose_min hc.1 hc.2)⟩, ?_, fun u => in_rep_loose hc.1 hc.2 u, h.2⟩
        show capW (wPt b * copies 0 _) = capW (capW (wPt b * copies imn imx) * copies mn mx)
        rw [loose_copies hc.1, loose_copies hc.2, loose_copies (loose_min hc.1 hc.2), Int.mul_one, Int.mul_one, capW_le hb2, capW_le hb2]
      · rw [if_neg hc] at h
        exact ⟨_, _, .rep (.rep b imn imx) mn mx, h.1, ⟨_, rfl, TreeAt.keep (.of h.2) _ _ hT0, hbd⟩, rfl, fun _ => Iff.rfl, h.2⟩

set_option maxRecDepth 100000 in
set_option maxHeartbeats 400000 in
theorem join_repT (sv l : Value) (p : Pt) (mn mx : Int) (g o c : Nat) (w : World) (c0 : w.cell? ⟨g, o, none⟩ = some l) (hp : TreeAt w l p) (hbd : boundsB mn mx = true) :
    Calls Tryd.prog 66 #[.agg #[.int .i64 4, sv, .int .i64 mn, .int .i64 mx, .int .i64 0], .slice (some ⟨g, o, none⟩) 1 c] w fun e w' => RepT w p mn mx e w' := by
  have hg : g < w.heap.size := block_lt_of_cell c0
  have hR := fun (W : World) (hb : Below w.heap.size w W) => repeated_tree l p mn mx W (TreeAt.keep (.of hb) p l hp) hbd
  have hb0 : Below w.heap.size w (w.alloc (.cells #[.int .i64 4, sv, .int .i64 mn, .int .i64 mx, .int .i64 0] 106)).drew := ((Below.refl _ _).alloc (Nat.le_refl _) _).drew
  clear hp hbd
  go_enter Tryd.func66, Tryd.ntmps66
  go_wp2
  go_region_held3 (fun w' => w'.cell? ⟨g, o, none⟩ = some l ∧ w'.cell? ⟨w.heap.size, 2, none⟩ = some (.int .i64 mn) ∧ w'.cell? ⟨w.heap.size, 3, none⟩ = some (.int .i64 mx)) ((first | go_keep | exact ⟨(hb2.cell (by simp; omega)).trans ((World.cell?_of_block (Below.heap_alloc _ _ _ hg)).trans c0), (hb2.cell (by simp)).trans (by simp), (hb2.cell (by simp)).trans (by simp)⟩)) ((go_at_call 74; refine (hR _ hb0).mono ?_; rintro e w2 ⟨t, x, p2, rfl, hp2, hw2, hi2, hb2⟩))
  go_wp2
  go_ret
  exact ⟨t, x, p2, rfl, hp2, hw2, hi2, below_step hb0 hb0.size hb2⟩

/-- A part's tree, of the language of t0. -/
def IsTr (w : World) (v : Value) (t0 : Pt) (wt : Int) : Prop := ∃ p, TreeAt w v p ∧ wPt p = wt ∧ ∀ u, In p u ↔ In t0 u
theorem IsTr.keep {w w' : World} {v : Value} {t0 : Pt} {wt : Int} (h : IsTr w v t0 wt) (hk : KeepM w w') : IsTr w' v t0 wt := by
  obtain ⟨p, h1, h2⟩ := h
  exact ⟨p, TreeAt.keep hk p v h1, h2⟩
theorem isTr_seq {w : World} {l r : Value} {t1 t2 : Pt} {a b : Int} (h1 : IsTr w l t1 a) (h2 : IsTr w r t2 b) : IsTr w (.iface 88 (.agg #[l, r])) (.seq t1 t2) (capW (a + b)) := by
  obtain ⟨p, hp, rfl, hi⟩ := h1
  obtain ⟨q, hq, rfl, hj⟩ := h2
  exact ⟨.seq p q, ⟨l, r, rfl, hp, hq⟩, rfl, fun u => exists_congr fun x => exists_congr fun y => and_congr_right fun _ => and_congr (hi x) (hj y)⟩
theorem isTr_alt {w : World} {l r : Value} {t1 t2 : Pt} {a b : Int} (h1 : IsTr w l t1 a) (h2 : IsTr w r t2 b) : IsTr w (.iface 89 (.agg #[l, r])) (.alt t1 t2) (capW (a + b)) := by
  obtain ⟨p, hp, rfl, hi⟩ := h1
  obtain ⟨q, hq, rfl, hj⟩ := h2
  exact ⟨.alt p q, ⟨l, r, rfl, hp, hq⟩, rfl, fun u => or_congr (hi u) (hj u)⟩
theorem isTr_grp {w : World} {l : Value} {t1 : Pt} {a g : Int} (h1 : IsTr w l t1 a) : IsTr w (.iface 94 (.agg #[l, .int .i64 g])) (.grp t1 g) a := by
  obtain ⟨p, hp, rfl, hi⟩ := h1
  exact ⟨.grp p g, ⟨l, rfl, hp⟩, rfl, hi⟩
theorem isTr_rep {w : World} {v : Value} {p p' t1 : Pt} {a mn mx : Int} (hw : wPt p = a) (hi : ∀ u, In p u ↔ In t1 u) (h : TreeAt w v p') (h2 : wPt p' = capW (wPt p * copies mn mx)) (h3 : ∀ u, In p' u ↔ In (.rep p mn mx) u) : IsTr w v (.rep t1 mn mx) (capW (a * copies mn mx)) :=
  ⟨p', h, by rw [h2, hw], fun u => (h3 u).trans (in_rep_congr hi mn mx u)⟩
theorem marksF_from (c : Nat) : ∀ (rs : List (Int × Int)) (f : Nat → Bool), (rs.foldl (fun f r => markIn f r.1 r.2) f) c = (f c || hasF rs c)
  | [], f => by simp [hasF]
  | r :: rs, f => by
    rw [List.foldl_cons, marksF_from c rs]
    simp [markIn, hasF, Bool.or_assoc]
theorem marksF_has (rs : List (Int × Int)) (c : Nat) : marksF rs c = hasF rs c := by
  unfold marksF
  rw [marksF_from]
  rfl
theorem isTr_set {w : World} {mg : Nat} {rs : List (Int × Int)} (h : w.heap[mg]? = some (.cells (marksArr (marksF rs)) 140 (0, 0))) : IsTr w (.iface 85 (.agg #[.pointer (some ⟨mg, 0, none⟩)])) (.set (hasF rs)) 1 :=
  ⟨.set (marksF rs), ⟨mg, rfl, h⟩, rfl, fun u => exists_congr fun c => and_congr_right fun _ => by rw [marksF_has]⟩

/-- The stack's values, their weights and trees. -/
def TreesAt (w : World) (xs : List Value) (st : List Int) (ts : List Pt) : Prop := xs.length = st.length ∧ (∀ j, j < st.length → ∃ t x, xs[j]? = some (.iface t x) ∧ IsTr w (.iface t x) (ts.getD j ptNone) (st.getD j 0)) ∧ ts.length = st.length
theorem own_row {w : World} {base : Nat} {e : TypeId} {sz n cap g : Nat} {xs : List Value} (h : w.ownsRow base e sz (.slice (some ⟨g, 0, none⟩) n cap) n xs) : ∃ cur, w.heap[g]? = some (.cells cur e (0, 0)) := by
  rcases h.2 with ⟨h0, _⟩ | ⟨g', cap', cur, hv, _, hh, _⟩
  · cases h0
  · cases hv; exact ⟨cur, hh⟩
theorem keep_five {wr w4 w5 : World} {B g n cap : Nat} {xs : List Value} (hw : Below wr.heap.size wr w4) (hown : w4.ownsRow B 57 1 (.slice (some ⟨g, 0, none⟩) n cap) n xs) (hg : w4.grownBy w5 (some g)) : KeepM wr w5 := by
  obtain ⟨cur, hr⟩ := own_row hown
  exact (KeepM.of hw).trans (KeepM.grown hg hr (by decide))
theorem tn1 (rs : List (Int × Int)) (ops : List Pt) : tnode ⟨1, rs, 0, 0, 0⟩ ops = .set (hasF rs) := rfl
theorem tn2 (ops : List Pt) : tnode ⟨2, [], 0, 0, 0⟩ ops = .seq (ops.getD 0 ptNone) (ops.getD 1 ptNone) := rfl
theorem tn3 (ops : List Pt) : tnode ⟨3, [], 0, 0, 0⟩ ops = .alt (ops.getD 0 ptNone) (ops.getD 1 ptNone) := rfl
theorem tn4 (mn mx : Int) (ops : List Pt) : tnode ⟨4, [], mn, mx, 0⟩ ops = .rep (ops.getD 0 ptNone) mn mx := rfl
theorem tn5 (g : Int) (ops : List Pt) : tnode ⟨5, [], 0, 0, g⟩ ops = .grp (ops.getD 0 ptNone) g := rfl
theorem wn1 (rs : List (Int × Int)) (ops : List Int) : wnode ⟨1, rs, 0, 0, 0⟩ ops = 1 := rfl
theorem wn2 (ops : List Int) : wnode ⟨2, [], 0, 0, 0⟩ ops = capW (ops.getD 0 0 + ops.getD 1 0) := rfl
theorem wn3 (ops : List Int) : wnode ⟨3, [], 0, 0, 0⟩ ops = capW (ops.getD 0 0 + ops.getD 1 0) := rfl
theorem wn4 (mn mx : Int) (ops : List Int) : wnode ⟨4, [], mn, mx, 0⟩ ops = capW (ops.getD 0 0 * copies mn mx) := rfl
theorem wn5 (g : Int) (ops : List Int) : wnode ⟨5, [], 0, 0, g⟩ ops = ops.getD 0 0 := rfl
theorem drop_twoT (ts : List Pt) (m : Nat) : (ts.drop m).getD 0 ptNone = ts.getD m ptNone ∧ (ts.drop m).getD 1 ptNone = ts.getD (m + 1) ptNone := by
  simp [List.getD_eq_getElem?_getD, List.getElem?_drop]

theorem lift_nextT {ns : List NodeD} {k m ar : Nat} {st : List Int} {xs : List Value} {nd : NodeD} {t : TypeId} {x : Value} {a : Int} {wr w5 : World} {B g' cap' : Nat} (hst : st.length = m + ar) (har : arity nd.kind = ar) (ha : wnode nd (st.drop m) = a)
    (hparts : TreesAt wr xs st (tstk ns k)) (hk : KeepM wr w5) (hn : ns.getD k .zero = nd) (hp : IsTr w5 (.iface t x) (tnode nd ((tstk ns k).drop m)) a)
    (hdk : st.length ≤ k) (hown5 : w5.ownsRow B 57 1 (.slice (some ⟨g', 0, none⟩) (m + 1) cap') (m + 1) (xs.take m ++ [.iface t x])) (HS : liftW ns [] = liftW (ns.drop k) st) (HD : liftW (ns.drop k) st = liftW (ns.drop (k + 1)) (wstep st nd)) :
    ∃ (st' : List Int) (xs' : List Value), m + 1 = st'.length ∧ w5.ownsRow B 57 1 (.slice (some ⟨g', 0, none⟩) st'.length cap') st'.length xs' ∧ TreesAt w5 xs' st' (tstk ns (k + 1)) ∧ st'.length ≤ k + 1 ∧ Hid (liftW ns [] = liftW (ns.drop (k + 1)) st') := by
  have hw : wstep st nd = st.take m ++ [a] := by
    unfold wstep
    rw [har, hst, Nat.add_sub_cancel, ha]
  have hl : (st.take m ++ [a]).length = m + 1 := by simp; omega
  have hts : tstk ns (k + 1) = (tstk ns k).take m ++ [tnode nd ((tstk ns k).drop m)] := by
    rw [tstk, hn, tstep, har, hparts.2.2, hst, Nat.add_sub_cancel]
  have hlx := hparts.1
  have hlt := hparts.2.2
  refine ⟨st.take m ++ [a], xs.take m ++ [.iface t x], hl.symm, by rw [hl]; exact hown5, ⟨by simp; omega, fun j hj => ?_, by rw [hts]; simp; omega⟩, by omega, ?_⟩
  · rw [hl] at hj
    rw [hts]
    by_cases e : j = m
    · subst e
      refine ⟨t, x, ?_, ?_⟩
      · rw [List.getElem?_append_right (by simp; omega)]; rw [List.length_take, Nat.min_eq_left (by omega), Nat.sub_self]; rfl
      · have e1 : (st.take j ++ [a]).getD j 0 = a := by
          rw [List.getD_eq_getElem?_getD, List.getElem?_append_right (by simp; omega)]; simp [Nat.min_eq_left (show j ≤ st.length by omega)]
        have e2 : ((tstk ns k).take j ++ [tnode nd ((tstk ns k).drop j)]).getD j ptNone = tnode nd ((tstk ns k).drop j) := by
          rw [List.getD_eq_getElem?_getD, List.getElem?_append_right (by simp; omega)]; simp [Nat.min_eq_left (show j ≤ (tstk ns k).length by omega)]
        rw [e1, e2]; exact hp
    · obtain ⟨t', x', h1, h2⟩ := hparts.2.1 j (by omega)
      refine ⟨t', x', ?_, ?_⟩
      · rw [List.getElem?_append_left (by simp; omega), List.getElem?_take, if_pos (by omega)]; exact h1
      · have e1 : (st.take m ++ [a]).getD j 0 = st.getD j 0 := by
          rw [List.getD_eq_getElem?_getD, List.getElem?_append_left (by simp; omega), List.getElem?_take, if_pos (by omega), List.getD_eq_getElem?_getD]
        have e2 : ((tstk ns k).take m ++ [tnode nd ((tstk ns k).drop m)]).getD j ptNone = (tstk ns k).getD j ptNone := by
          rw [List.getD_eq_getElem?_getD, List.getElem?_append_left (by simp; omega), List.getElem?_take, if_pos (by omega), List.getD_eq_getElem?_getD]
        rw [e1, e2]; exact h2.keep hk
  · show _ = _
    rw [HS, HD, hw]
end Go.Proofs.YthgaeaihfbiolaaDoor
namespace Go.Proofs.YthgaeaihfbiolaaDoor
open Go.RowKit

/-- A call of a Go function as one step of a region that draws its order; what it returns isn't known ahead. -/
theorem step_goE {P : Program} {ops : Array Oper} {o : Oper} {a : Act} {w : World} {K : Act → World → Prop} {Q : Exit → Act → World → Prop} {E : Prop} (hgd : o.guard = none) (f : FuncId) (xs : Array Operand) (ats : Array TypeId)
    (ho : o.op = .call { callee := .value (.func f), args := xs, argTypes := ats }) (args : Array Value) (hargs : (#[] ++ xs.map a.eval ++ #[] : Array Value) = args) (R : Value → World → Prop) (hen : (callFunc f args).run P w = .ok (.enter f args) w)
    (hc : Calls P f args w fun e w' => ∃ v, e = .returned v ∧ R v w') (h : ∀ v w', R v w' → K (a.put o.dst v) w') :
    if Region.wanted o (yielded ops a.tmps) = true then Oper.wp P o a w K Q else E := by
  have hw : Region.wanted o (yielded ops a.tmps) = true := by simp [Region.wanted, hgd]
  rw [if_pos hw]
  obtain ⟨dst, op, type, pos, after, guard⟩ := o
  simp only at ho
  subst ho
  unfold Oper.wp
  rw [execOp_call_go, hargs]
  rw [hen, Oper.upon_enter]
  refine hc.mono ?_
  rintro e w' ⟨v, rfl, hR⟩
  exact h v w' hR
theorem enterWrite (xs : Array Value) (w : World) : (callFunc 21 xs).run Tryd.prog w = .ok (.enter 21 xs) w := by kernel_rfl
theorem enterSeq (xs : Array Value) (w : World) : (callFunc 38 xs).run Tryd.prog w = .ok (.enter 38 xs) w := by kernel_rfl
theorem enterEither (xs : Array Value) (w : World) : (callFunc 20 xs).run Tryd.prog w = .ok (.enter 20 xs) w := by kernel_rfl

/-- All blocks but rows of words are kept. -/
def KU (w W : World) : Prop := ∀ (k : Nat) (cs : Array Value) (t : TypeId), w.heap[k]? = some (.cells cs t (0, 0)) → t ≠ 116 → W.heap[k]? = some (.cells cs t (0, 0))
theorem KU.of {S : Nat → Prop} {w W : World} (t : Touch S w W) (hS : ∀ k, k < w.heap.size → S k → ∃ m T, PosAt w m k T) : KU w W := fun k cs u hk hu => by
  have hlt := (Array.getElem?_eq_some_iff.1 hk).1
  refine (t.same k hlt (fun hs => ?_)).trans hk
  obtain ⟨m, T, hp⟩ := hS k hlt hs
  have := hp.row
  rw [hk] at this
  exact hu (cells_type this)

def WrX (B : Nat) (w : World) (n nw bt : Nat) (mk : Nat → Nat) (f : Nat → Nat → Bool) (fr : Nat → Nat) (F : Nat → Nat → Nat) (W : World) (n' ga gl : Nat) (b : Bool) (M : Word → Prop) : Prop :=
  ∃ (sv fv : Value) (mk' : Nat → Nat) (f' : Nat → Nat → Bool) (fr' : Nat → Nat) (F' : Nat → Nat → Nat) (A L : Nat → Nat), WrD B w n nw bt mk f fr F W n' ga gl b M sv fv mk' f' fr' F' A L

theorem seq_ok2 {B : Nat} {w W : World} {n nw bt : Nat} {mk : Nat → Nat} {f : Nat → Nat → Bool} {fr : Nat → Nat} {F : Nat → Nat → Nat} {n' ga gl ha hl : Nat} {b c : Bool} {D E : Nat → Prop} {M N : Word → Prop} {sv fv : Value} {mk' : Nat → Nat} {f' : Nat → Nat → Bool} {fr' : Nat → Nat} {F' : Nat → Nat → Nat} {A L A' L' : Nat → Nat}
    (h : Pair B w n nw bt mk f fr F W n' ga gl ha hl b c D E M N sv fv mk' f' fr' F' A L A' L') :
    Calls Tryd.prog 38 #[.pointer (some ⟨bt, 0, none⟩), .agg #[.bool b, .slice (some ⟨ga, 0, none⟩) nw nw, .slice (some ⟨gl, 0, none⟩) nw nw], .agg #[.bool c, .slice (some ⟨ha, 0, none⟩) nw nw, .slice (some ⟨hl, 0, none⟩) nw nw]] W fun e W2 =>
      e = .returned (.agg #[.bool (b && c), .slice (some ⟨ga, 0, none⟩) nw nw, .slice (some ⟨hl, 0, none⟩) nw nw]) ∧ WrX B w n nw bt mk f fr F W2 n' ga hl (b && c) (fun u => ∃ x y, u = x ++ y ∧ M x ∧ N y) ∧ KU W W2 := by
  refine (sequence_ok n' nw bt ga gl ha hl b c sv fv fr' F' A L A' L' W h.tk.l h.x h.y h.aa h.al h.ll h.e1 h.e2 h.e3 h.e4 (fun p _ hp => ((h.un p).1 (.inl (h.gx.la p hp))).2)).mono fun e W2 hs => ⟨hs.1, ⟨_, _, _, _, _, _, _, _, h.seq hs⟩, KU.of hs.2.2.2 (fun k _ e => ?_)⟩
  rcases e with rfl | rfl | ⟨p, hp, rfl⟩
  · exact ⟨_, _, h.x.fi⟩
  · exact ⟨_, _, h.y.la⟩
  · exact ⟨_, _, h.tk.fol.rows p hp⟩
theorem alt_ok2 {B : Nat} {w W : World} {n nw bt : Nat} {mk : Nat → Nat} {f : Nat → Nat → Bool} {fr : Nat → Nat} {F : Nat → Nat → Nat} {n' ga gl ha hl : Nat} {b c : Bool} {D E : Nat → Prop} {M N : Word → Prop} {sv fv : Value} {mk' : Nat → Nat} {f' : Nat → Nat → Bool} {fr' : Nat → Nat} {F' : Nat → Nat → Nat} {A L A' L' : Nat → Nat}
    (h : Pair B w n nw bt mk f fr F W n' ga gl ha hl b c D E M N sv fv mk' f' fr' F' A L A' L') :
    Calls Tryd.prog 20 #[.pointer (some ⟨bt, 0, none⟩), .agg #[.bool b, .slice (some ⟨ga, 0, none⟩) nw nw, .slice (some ⟨gl, 0, none⟩) nw nw], .agg #[.bool c, .slice (some ⟨ha, 0, none⟩) nw nw, .slice (some ⟨hl, 0, none⟩) nw nw]] W fun e W2 =>
      e = .returned (.agg #[.bool (b || c), .slice (some ⟨ga, 0, none⟩) nw nw, .slice (some ⟨gl, 0, none⟩) nw nw]) ∧ WrX B w n nw bt mk f fr F W2 n' ga gl (b || c) (fun u => M u ∨ N u) ∧ KU W W2 := by
  refine (either_ok nw bt ga gl ha hl b c A L A' L' W h.x h.y h.aa h.al h.ll h.tk.nwl).mono fun e W2 hs => ⟨hs.1, ⟨_, _, _, _, _, _, _, _, h.alt hs.2.1 hs.2.2⟩, KU.of hs.2.2 (fun k _ e => ?_)⟩
  rcases e with rfl | rfl
  · exact ⟨_, _, h.x.fi⟩
  · exact ⟨_, _, h.x.la⟩
theorem star_ok2 {B : Nat} {w W : World} {n nw bt : Nat} {mk : Nat → Nat} {f : Nat → Nat → Bool} {fr : Nat → Nat} {F : Nat → Nat → Nat} {n' ga gl : Nat} {b : Bool} {M : Word → Prop} {sv fv : Value} {mk' : Nat → Nat} {f' : Nat → Nat → Bool} {fr' : Nat → Nat} {F' : Nat → Nat → Nat} {A L : Nat → Nat}
    (h : WrD B w n nw bt mk f fr F W n' ga gl b M sv fv mk' f' fr' F' A L) :
    Calls Tryd.prog 56 #[.pointer (some ⟨bt, 0, none⟩), .slice (some ⟨gl, 0, none⟩) nw nw, .slice (some ⟨ga, 0, none⟩) nw nw] W fun e W2 =>
      e = .returned (.tuple #[]) ∧ WrX B w n nw bt mk f fr F W2 n' ga gl true (fun u => ∃ k, Pow M k u) ∧ KU W W2 := by
  refine (link_okL n' nw bt gl nw ga nw sv fv fr' F' L A W h.tk.l h.fg.la h.fg.fi h.el h.ea (fun p _ hp => (h.good.la p hp).2)).mono fun e W2 hs => ⟨hs.1, ⟨_, _, _, _, _, _, _, _, h.star hs.2.1 hs.2.2⟩, KU.of hs.2.2 (fun k _ ⟨p, hp, e⟩ => ⟨_, _, e ▸ h.tk.fol.rows p hp⟩)⟩

/-- What write owes over p. -/
def WrC (p : Pt) : Prop := ∀ (B n nw bt : Nat) (sv fv : Value) (mk : Nat → Nat) (f : Nat → Nat → Bool) (fr : Nat → Nat) (F : Nat → Nat → Nat) (w : World) (v : Value), Trk B w n nw bt sv fv mk f fr F → TreeAt w v p → wPt p ≤ 2000 → n + (wPt p).toNat ≤ 64 * nw →
  Calls Tryd.prog 21 #[.pointer (some ⟨bt, 0, none⟩), v] w fun e W => WrR B w n nw bt mk f fr F (wPt p).toNat (In p) e W
end Go.Proofs.YthgaeaihfbiolaaDoor
