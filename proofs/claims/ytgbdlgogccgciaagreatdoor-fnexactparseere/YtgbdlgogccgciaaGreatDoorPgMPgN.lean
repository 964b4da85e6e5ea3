import Derived.Test.YtgbdlgogccgciaaGreatDoorPgJPgKMkE
namespace Go.Proofs.YtgbdlgogccgciaaGreatDoor
open Go.RowKit
attribute [local go_sem ↓] Go.wp_at_zero Go.wp_at_succ

/- THE WRITER: what it sees, what it takes. -/
/-- The writer stands in block p at token x, g groups begun. -/
structure WtS (W : World) (p G c : Nat) (l : List Tok) (sv : Nat → Value) (x g : Nat) : Prop where
  box : W.heap[p]? = some (.cells #[.slice (some ⟨G, 0, none⟩) l.length c, .int .i64 (x : Int), .int .i64 (g : Int)] 113 (0, 0))
  tok : TiV W G l sv
  few : l.length ≤ 2000
  le : x ≤ l.length
  ne : p ≠ G
theorem row_threeE {w : World} {g : Nat} {a b c : Value} {t : TypeId} (h : w.heap[g]? = some (.cells #[a, b, c] t (0, 0))) : w.cell? ⟨g, 0, none⟩ = some a ∧ w.cell? ⟨g, 1, none⟩ = some b ∧ w.cell? ⟨g, 2, none⟩ = some c ∧ w.frozen? ⟨g, 0, none⟩ = false ∧ w.frozen? ⟨g, 1, none⟩ = false ∧ w.frozen? ⟨g, 2, none⟩ = false :=
  ⟨row_cells h 0, row_cells h 1, row_cells h 2, frozen_of_row _ _ _ _ _ h, frozen_of_row _ _ _ _ _ h, frozen_of_row _ _ _ _ _ h⟩
def seesB (l : List Tok) (x k : Nat) : Bool := decide (x < l.length ∧ kAt l x = k)
set_option maxRecDepth 100000 in
set_option maxHeartbeats 4000000 in
theorem sees_ok {p G c : Nat} {l : List Tok} {sv : Nat → Value} {x g : Nat} (k : Nat) (w : World) (h : WtS w p G c l sv x g) :
    Calls Tryz.prog 76 #[.pointer (some ⟨p, 0, none⟩), .int .i64 (k : Int)] w fun e w' => e = .returned (.bool (seesB l x k)) ∧ w'.heap = w.heap ∧ Below w.heap.size w w' := by
  obtain ⟨z0, z1, z2, -, -, -⟩ := row_threeE h.box
  have hx := h.le
  have hl := h.few
  obtain ⟨n, hn⟩ : ∃ n, n = l.length := ⟨_, rfl⟩
  rw [← hn] at z0
  by_cases hlt : x < l.length
  · have c0 := h.tok.kindC hlt
    have hsb : seesB l x k = decide (kAt l x = k) := by unfold seesB; simp [hlt]
    rw [hsb]
    have hxn : (x : Int) < (n : Int) := by omega
    generalize kAt l x = K at *
    have hx2 : x ≤ 2000 := by omega
    clear hsb h hn hlt hx hl
    by_cases e : K = k
    · have e1 : ((K : Int) == (k : Int)) = true := by simp; omega
      have e2 : decide (K = k) = true := decide_eq_true e
      rw [e2]
      clear e e2
      go_enter Tryz.func76, Tryz.ntmps76
      go_wp2
      go_big_region
      all_goals go_wp2
      all_goals go_ret
      all_goals exact ⟨rfl, rfl, (Below.refl _ _).drew⟩
    · have e1 : ((K : Int) == (k : Int)) = false := by simp; omega
      have e2 : decide (K = k) = false := decide_eq_false e
      rw [e2]
      clear e e2
      go_enter Tryz.func76, Tryz.ntmps76
      go_wp2
      go_big_region
      all_goals go_wp2
      all_goals go_ret
      all_goals exact ⟨rfl, rfl, (Below.refl _ _).drew⟩
  · have hsb : seesB l x k = false := by unfold seesB; simp [hlt]
    rw [hsb]
    have hxn : x = n := by omega
    clear hsb h hn hlt hx hl
    subst hxn
    have hxx : decide ((x : Int) < (x : Int)) = false := by simp
    go_enter Tryz.func76, Tryz.ntmps76
    go_wp2
    go_big_region
    all_goals go_wp2
    all_goals go_ret
    all_goals exact ⟨rfl, rfl, (Below.refl _ _).drew⟩
end Go.Proofs.YtgbdlgogccgciaaGreatDoor
namespace Go.Proofs.YtgbdlgogccgciaaGreatDoor
open Go.RowKit
attribute [local go_sem ↓] Go.wp_at_zero Go.wp_at_succ

/- WHAT THE WRITER WRITES: its box in block p, the tokens and their sets in blocks ahead of it, its nodes behind it. -/
def nilS : Value := .slice none 0 0
def NdP (B p : Nat) (W : World) (v : Value) (ns : List NodeD) (vs : List Value) : Prop :=
  vs.length = ns.length ∧ W.ownsRow (p + 1) 67 5 v ns.length (ndC ns fun k => vs.getD k nilS) ∧ ∀ k, k < ns.length → RngO B W (vs.getD k nilS) (ns.getD k .zero).set ∧ ∀ b, (vs.getD k nilS).ownBlock = some b → b < p
structure WKp (p : Nat) (row : Option Nat) (W w' : World) : Prop where
  os : w'.os = W.os
  tape : w'.tape = W.tape
  output : w'.output = W.output
  size : W.heap.size ≤ w'.heap.size
  block : ∀ k, k < W.heap.size → k ≠ p → some k ≠ row → w'.heap[k]? = W.heap[k]?
def OwnT (W : World) (v v' : Value) : Prop := ∀ b, v'.ownBlock = some b → v.ownBlock = some b ∨ W.heap.size ≤ b
theorem OwnT.refl (W : World) (v : Value) : OwnT W v v := fun _ h => .inl h
theorem OwnT.trans {W w1 : World} {v v1 v2 : Value} (h : OwnT W v v1) (hs : W.heap.size ≤ w1.heap.size) (h2 : OwnT w1 v1 v2) : OwnT W v v2 := fun b hb => by
  rcases h2 b hb with h3 | h3
  · exact h b h3
  · exact .inr (by omega)
theorem OwnT.of {W : World} {v : Value} {g n c : Nat} (h : v.ownBlock = some g ∨ W.heap.size ≤ g) : OwnT W v (.slice (some ⟨g, 0, none⟩) n c) := fun b hb => by
  have : g = b := by simpa [Value.ownBlock] using hb
  subst this
  exact h
theorem WKp.refl (p : Nat) (row : Option Nat) (W : World) : WKp p row W W := ⟨rfl, rfl, rfl, Nat.le_refl _, fun _ _ _ _ => rfl⟩
theorem WKp.any {p : Nat} {row : Option Nat} {W w' : World} (h : WKp p none W w') : WKp p row W w' := ⟨h.os, h.tape, h.output, h.size, fun k h1 h2 _ => h.block k h1 h2 (by simp)⟩
theorem WKp.trans {p : Nat} {W w1 w2 : World} {v v1 : Value} (h : WKp p v.ownBlock W w1) (ho : OwnT W v v1) (h2 : WKp p v1.ownBlock w1 w2) : WKp p v.ownBlock W w2 :=
  ⟨h2.os.trans h.os, h2.tape.trans h.tape, h2.output.trans h.output, Nat.le_trans h.size h2.size, fun k hk hp hr => by
    rw [h2.block k (Nat.lt_of_lt_of_le hk h.size) hp (fun e => ?_)]
    · exact h.block k hk hp hr
    · rcases ho k e.symm with h3 | h3
      · exact hr h3.symm
      · omega⟩
theorem WKp.next {p : Nat} {row : Option Nat} {W w1 w2 : World} (h : WKp p row W w1) (h2 : WKp p none w1 w2) : WKp p row W w2 :=
  ⟨h2.os.trans h.os, h2.tape.trans h.tape, h2.output.trans h.output, Nat.le_trans h.size h2.size, fun k hk hp hr => by
    rw [h2.block k (Nat.lt_of_lt_of_le hk h.size) hp (by simp)]
    exact h.block k hk hp hr⟩
theorem WKp.of_below {p : Nat} {W w' : World} (h : Below W.heap.size W w') : WKp p none W w' := ⟨h.os, h.tape, h.output, h.size, fun k hk _ _ => h.block k hk⟩
theorem WKp.of_grown {p : Nat} {row : Option Nat} {W w' : World} (h : W.grownBy w' row) : WKp p row W w' := ⟨h.os, h.tape, h.output, h.size, fun k hk _ hr => h.block k hk hr⟩
theorem WKp.cell {p : Nat} {row : Option Nat} {W w' : World} (h : WKp p row W w') (o : Nat) (u : Value) : WKp p row W (w'.setCell ⟨p, o, none⟩ u) :=
  ⟨h.os, h.tape, h.output, by simpa [World.setCell] using h.size, fun k hk hp hr => by rw [heap_setCell_other _ _ _ _ hp]; exact h.block k hk hp hr⟩
theorem NdP.keep {B p : Nat} {W w' : World} {v : Value} {ns : List NodeD} {vs : List Value} (h : NdP B p W v ns vs) (hk : WKp p none W w') : NdP B p w' v ns vs := by
  obtain ⟨hl, ho, hr⟩ := h
  refine ⟨hl, ownsRow_keep ho fun b hb => hk.block b (ownsRow_blk ho hb).2 (by have := (ownsRow_blk ho hb).1; omega) (by simp), fun k hk2 => ⟨ownsRow_keep (hr k hk2).1 fun b hb => hk.block b (ownsRow_blk (hr k hk2).1 hb).2 (by have := (hr k hk2).2 b hb; omega) (by simp), (hr k hk2).2⟩⟩
theorem NdP.nil (B p : Nat) (W : World) : NdP B p W (.slice none 0 0) [] [] := ⟨rfl, ⟨rfl, .inl ⟨rfl, rfl⟩⟩, fun k h => absurd h (by simp)⟩
theorem NdP.own {B p : Nat} {W : World} {v : Value} {ns : List NodeD} {vs : List Value} (h : NdP B p W v ns vs) : ∀ b, v.ownBlock = some b → p < b ∧ b < W.heap.size := fun _ hb => ⟨(ownsRow_blk h.2.1 hb).1, (ownsRow_blk h.2.1 hb).2⟩
theorem getDsn_lt {α : Type} (l : List α) (x d : α) {k : Nat} (h : k < l.length) : (l ++ [x]).getD k d = l.getD k d := by simp [List.getD, List.getElem?_append_left h]
theorem getDsn_eq {α : Type} (l : List α) (x d : α) {k : Nat} (h : k = l.length) : (l ++ [x]).getD k d = x := by subst h; simp [List.getD]
theorem ndC_snoc (ns : List NodeD) (vs : List Value) (n : NodeD) (sx : Value) (h : vs.length = ns.length) : ndC (ns ++ [n]) (fun k => (vs ++ [sx]).getD k nilS) = ndC ns (fun k => vs.getD k nilS) ++ nd5 n sx := by
  unfold ndC
  rw [List.length_append, show [n].length = 1 from rfl, flat_succ]
  congr 1
  · refine flat_congr _ fun k hk => ?_
    show nd5 _ ((vs ++ [sx]).getD k nilS) = nd5 _ (vs.getD k nilS)
    rw [getDsn_lt _ _ _ hk, getDsn_lt _ _ _ (by omega)]
  · show nd5 _ ((vs ++ [sx]).getD ns.length nilS) = _
    rw [getDsn_eq _ _ _ rfl, getDsn_eq _ _ _ h.symm]
theorem NdP.push {B p : Nat} {W w' : World} {v sx : Value} {ns : List NodeD} {vs : List Value} {n : NodeD} {g' cap' : Nat} (h : NdP B p W v ns vs) (hsx : RngO B W sx n.set) (hsb : ∀ b, sx.ownBlock = some b → b < p)
    (ho : w'.ownsRow (p + 1) 67 5 (.slice (some ⟨g', 0, none⟩) (ns.length + 1) cap') (ns.length + 1) (ndC ns (fun k => vs.getD k nilS) ++ nd5 n sx)) (hg : W.grownBy w' v.ownBlock) :
    NdP B p w' (.slice (some ⟨g', 0, none⟩) (ns.length + 1) cap') (ns ++ [n]) (vs ++ [sx]) := by
  have hown := h.own
  obtain ⟨hl, ho0, hr⟩ := h
  have key : ∀ s rs, RngO B W s rs → (∀ b, s.ownBlock = some b → b < p) → RngO B w' s rs := fun s rs h1 h2 => ownsRow_keep h1 fun b hb => hg.block b (ownsRow_blk h1 hb).2 fun e => by
    have := h2 b hb
    have := hown b e.symm
    omega
  refine ⟨by simp [hl], by rw [List.length_append, ndC_snoc _ _ _ _ hl]; exact ho, fun k hk => ?_⟩
  by_cases e : k < ns.length
  · rw [getDsn_lt _ _ _ e, getDsn_lt _ _ _ (by omega)]
    exact ⟨key _ _ (hr k e).1 (hr k e).2, (hr k e).2⟩
  · have e2 : k = ns.length := by simp at hk; omega
    rw [getDsn_eq _ _ _ e2, getDsn_eq _ _ _ (by omega)]
    exact ⟨key _ _ hsx hsb, hsb⟩
theorem RngO.nil (B : Nat) (W : World) : RngO B W nilS [] := ⟨rfl, .inl ⟨rfl, rfl⟩⟩
theorem RngO.one {B : Nat} {W : World} {v : Value} {rs : List (Int × Int)} (h : RngO B W v rs) : v.oneCell' = true := by obtain ⟨a, n, c, rfl⟩ := h.form; rfl
/-- One node appended. -/
theorem wpList_nodeP {ops : Array Oper} {rest : List Oper} {o : Oper} {a : Act} {Q : Exit → Act → World → Prop} {Wc : World} (hgd : o.guard = none) (s x : Operand)
    (ho : o.op = .call { callee := .builtin .append, args := #[s, x], argTypes := #[41, 41] }) (B p : Nat) (v : Value) (ns : List NodeD) (vs : List Value) (hs : a.eval s = v) (hN : NdP B p Wc v ns vs)
    (H : Nat) (n : NodeD) (sx : Value) (hx : a.eval x = .slice (some ⟨H, 0, none⟩) 1 1) (hrow : Wc.heap[H]? = some (.cells (nd5 n sx).toArray 67 (0, 0))) (hsx : RngO B Wc sx n.set) (hsb : ∀ b, sx.ownBlock = some b → b < p) (L : Nat) (hL : ns.length = L) (hlen : L ≤ 100000) (hB : p < Wc.heap.size)
    (h : ∀ g' cap' w', NdP B p w' (.slice (some ⟨g', 0, none⟩) (L + 1) cap') (ns ++ [n]) (vs ++ [sx]) → Wc.grownBy w' v.ownBlock → (v.ownBlock = some g' ∨ Wc.heap.size ≤ g') → wpList Tryz.prog ops Q rest (a.put o.dst (.slice (some ⟨g', 0, none⟩) (L + 1) cap')) w') :
    wpList Tryz.prog ops Q (o :: rest) a Wc := by
  subst hL
  obtain ⟨iN, hjN, hyN0, hyN1, hyN2⟩ := info_parts infoNodeP
  refine wpList_append_lies _ hgd s x 41 ho (p + 1) 67 iN _ 5 56 Tryz.underlying41 hjN hyN0 hyN1 hyN2 rfl (by omega) v ns.length _ hs hN.2.1 ⟨H, 0, none⟩ 1 1 (nd5 n sx) hx rfl ?_ (nd5_one n sx hsx.one) (by omega) (by unfold maxLen; omega) (by omega) (by omega) _ rfl ?_
  · intro j u hu
    have e1 : (⟨H, 0, none⟩ : Addr).add j = ⟨H, j, none⟩ := by unfold Addr.add; split <;> simp_all
    rw [e1, cell_of_row _ _ _ _ _ _ hrow, List.getElem?_toArray]
    exact hu
  · intro g' cap' w' own4 grow4 at4 _
    exact h g' cap' w' (hN.push hsx hsb own4 grow4) grow4 (at4.imp id fun e => by omega)
/-- Where the writer stands. -/
structure WtT (B p G c : Nat) (l : List Tok) (sv : Nat → Value) (W : World) (x g : Nat) : Prop where
  st : WtS W p G c l sv x g
  gp : G < p
  set : ∀ k, k < l.length → kAt l k = 0 → RngO B W (sv k) (rngF (l.getD k tokZ).set 256)
  nil : ∀ k, k < l.length → kAt l k ≠ 0 → sv k = nilS
  blk : ∀ k, k < l.length → ∀ b, (sv k).ownBlock = some b → b < p
  gl : g ≤ x
theorem WtT.lt {B p G c : Nat} {l : List Tok} {sv : Nat → Value} {W : World} {x g : Nat} (h : WtT B p G c l sv W x g) : p < W.heap.size := row_lt h.st.box
theorem WtT.to {B p G c : Nat} {l : List Tok} {sv : Nat → Value} {W w' : World} {x g x' g' : Nat} {row : Option Nat} (h : WtT B p G c l sv W x g) (hk : WKp p row W w') (hr : ∀ b, row = some b → p < b)
    (hb : w'.heap[p]? = some (.cells #[.slice (some ⟨G, 0, none⟩) l.length c, .int .i64 (x' : Int), .int .i64 (g' : Int)] 113 (0, 0))) (hx : x' ≤ l.length) (hgl : g' ≤ x') : WtT B p G c l sv w' x' g' := by
  have hgp := h.gp
  have hne : ∀ b, b < p → some b ≠ row := fun b hb e => by have := hr b e.symm; omega
  refine ⟨⟨hb, h.st.tok.keep hk.size (hk.block G h.st.tok.lt (by omega) (hne G hgp)), h.st.few, hx, h.st.ne⟩, h.gp, fun k hk2 hz => ?_, h.nil, h.blk, hgl⟩
  refine ownsRow_keep (h.set k hk2 hz) fun b hb2 => ?_
  have := h.blk k hk2 b hb2
  exact hk.block b (ownsRow_blk (h.set k hk2 hz) hb2).2 (by omega) (hne b this)
theorem WtT.keep {B p G c : Nat} {l : List Tok} {sv : Nat → Value} {W w' : World} {x g : Nat} (h : WtT B p G c l sv W x g) (hb : Below W.heap.size W w') : WtT B p G c l sv w' x g :=
  h.to (WKp.of_below (p := p) hb) (fun b e => by cases e) (row_below h.st.box hb) h.st.le h.gl
theorem WtT.grown {B p G c : Nat} {l : List Tok} {sv : Nat → Value} {W w' : World} {x g : Nat} {row : Option Nat} (h : WtT B p G c l sv W x g) (hg : W.grownBy w' row) (hr : ∀ b, row = some b → p < b) : WtT B p G c l sv w' x g :=
  h.to (WKp.of_grown (p := p) hg) hr (by rw [hg.block p h.lt (fun e => by have := hr p e.symm; omega)]; exact h.st.box) h.st.le h.gl
/-- The blocks of the sets of tokens x .. x + n. -/
def blF (sv : Nat → Value) (x n : Nat) : List Nat := (List.range' x n).filterMap fun k => (sv k).ownBlock
theorem blF_app (sv : Nat → Value) (x n m : Nat) : blF sv x (n + m) = blF sv x n ++ blF sv (x + n) m := by
  unfold blF
  rw [← List.range'_append_1, List.filterMap_append]
theorem blF_one (sv : Nat → Value) (x : Nat) : blF sv x 1 = [sv x].filterMap Value.ownBlock := by simp only [blF, List.range'_one, List.filterMap_cons, List.filterMap_nil]
theorem blF_nil {B p G c : Nat} {l : List Tok} {sv : Nat → Value} {W : World} {x g k : Nat} (h : WtT B p G c l sv W x g) (hk : k < l.length) (hz : kAt l k ≠ 0) : blF sv k 1 = [] := by
  rw [blF_one, h.nil k hk hz]; rfl
/-- What the writer's functions answer over a part. -/
def WrR (B p G c : Nat) (l : List Tok) (sv : Nat → Value) (W : World) (v : Value) (ns0 : List NodeD) (vs0 : List Value) (x' g' : Nat) (ns' : List NodeD) (bl : List Nat) (e : Ending) (w' : World) : Prop :=
  ∃ v' vs', e = .returned v' ∧ NdP B p w' v' (ns0 ++ ns') (vs0 ++ vs') ∧ WtT B p G c l sv w' x' g' ∧ WKp p v.ownBlock W w' ∧ OwnT W v v' ∧ vs'.filterMap Value.ownBlock = bl
end Go.Proofs.YtgbdlgogccgciaaGreatDoor
