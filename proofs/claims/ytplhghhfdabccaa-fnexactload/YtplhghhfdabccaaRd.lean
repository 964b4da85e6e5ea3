import Derived.Test.YtplhghhfdabccaaCur
import Derived.Test.YtplhghhfdabccaaLoadQ
import Derived.WalkLawsBesides
namespace Go.Proofs.Ytplhghhfdabccaa
open Go.RowKit
attribute [local go_sem ↓] Go.wp_at_zero Go.wp_at_succ

/- THE READER of an image. -/
theorem must_true (c : Int) (w : World) : Calls Try.prog 81 #[.bool true, .int .i64 c] w fun e w' => e = .returned (.tuple #[]) ∧ w' = w := by
  go_enter Try.func81, Try.ntmps81
  go_wp2
  go_end0
  exact ⟨rfl, rfl⟩
def refusal (c : Int) : List PanicEntry := [{ v := .iface 114 (.int .i64 c), recovered := false }]
theorem must_false (c : Int) (w : World) : Calls Try.prog 81 #[.bool false, .int .i64 c] w fun e w' => e = .panicked (refusal c) ∧ w' = w := by
  go_enter Try.func81, Try.ntmps81
  go_wp2
  exact ⟨rfl, rfl, rfl⟩

def Rd (X : Array Value) (m : Nat × Nat) (p g cap : Nat) (s : ByteArray) (k : Nat) (w : World) : Prop := Cur 117 X m p g cap s.data.toList k (sumF (s.data.toList.take k)) w
theorem sumF_step {L : List UInt8} {k : Nat} (h : k < L.length) : sumStep (sumF (L.take k)) (L.getD k 0) = sumF (L.take (k + 1)) := by
  rw [List.take_succ_eq_append_getElem h, sumF_snoc]
  simp [List.getD, h]
theorem Rd.keep {X : Array Value} {m : Nat × Nat} {p g cap : Nat} {s : ByteArray} {k : Nat} {w w' : World} (h : Rd X m p g cap s k w) {S : Nat → Prop} (hk : Kept S w w') (hp : ¬S p) (hg : ¬S g) : Rd X m p g cap s k w' := Cur.keep h hk hp hg
theorem Rd.below {X : Array Value} {m : Nat × Nat} {p g cap : Nat} {s : ByteArray} {k : Nat} {w w' : World} (h : Rd X m p g cap s k w) (hb : Below w.heap.size w w') : Rd X m p g cap s k w' := h.keep (S := fun _ => False) (.of_below hb) (fun k => k) (fun k => k)
theorem Rd.pass {X : Array Value} {m : Nat × Nat} {p g cap : Nat} {s : ByteArray} {k : Nat} {w : World} (h : Rd X m p g cap s k w) (hk : k < s.size) (hL : s.size ≤ 1048576) :
    Calls Try.prog 105 #[.pointer (some ⟨p, 0, none⟩)] w fun e w' => e = .returned (.int .u8 (byteN s k : Int)) ∧ (Rd X m p g cap s (k + 1) w' ∧ Kept (fun b => b = p) w w') := by
  have := pass_ok p g cap s.data.toList k (sumF (s.data.toList.take k)) w h (by simpa using hk) (by simp; omega)
  rw [sumF_step (by simpa using hk)] at this
  exact this
theorem or_two (x y : Nat) (hx : x < 256) (hy : y < 256) : bits BinOp.or IntKind.i64 ((x : Int) * 256) (y : Int) = ((x * 256 + y : Nat) : Int) := by
  have e : ((x : Int) * 256) = ((x * 256 : Nat) : Int) := by simp
  have h1 : (BitVec.ofInt 64 ((x * 256 : Nat) : Int) ||| BitVec.ofInt 64 (y : Int)).toNat = x * 256 + y := by
    rw [BitVec.ofInt_natCast, BitVec.ofInt_natCast, BitVec.toNat_or, BitVec.toNat_ofNat, BitVec.toNat_ofNat, Nat.mod_eq_of_lt (by omega), Nat.mod_eq_of_lt (by omega)]
    have := Nat.shiftLeft_add_eq_or_of_lt (i := 8) (b := y) hy x
    rw [Nat.shiftLeft_eq] at this
    exact this.symm
  rw [e]
  show IntKind.i64.wrap ((BitVec.ofInt 64 ((x * 256 : Nat) : Int) ||| BitVec.ofInt 64 (y : Int)).toNat : Int) = _
  rw [h1]
  simp [IntKind.wrap, IntKind.bits, IntKind.signed]
  omega

set_option maxRecDepth 100000 in
set_option maxHeartbeats 400000 in
theorem Rd.number {X : Array Value} {m : Nat × Nat} {p g cap : Nat} {s : ByteArray} {k : Nat} {w : World} (h : Rd X m p g cap s k w) (hk : k + 1 < s.size) (hL : s.size ≤ 1048576) :
    Calls Try.prog 106 #[.pointer (some ⟨p, 0, none⟩)] w fun e w' => e = .returned (.int .i64 (numN s k : Int)) ∧ (Rd X m p g cap s (k + 2) w' ∧ Kept (fun b => b = p) w w') := by
  have hx := byteN_lt s k
  have hy := byteN_lt s (k + 1)
  have HN : Hid (numN s k = byteN s k * 256 + byteN s (k + 1)) := rfl
  have c1 := fun w h => Rd.pass (X := X) (m := m) (p := p) (g := g) (cap := cap) (s := s) (k := k) (w := w) h (by omega) hL
  have c2 := fun w h => Rd.pass (X := X) (m := m) (p := p) (g := g) (cap := cap) (s := s) (k := k + 1) (w := w) h hk hL
  generalize byteN s k = x at *
  generalize byteN s (k + 1) = y at *
  go_enter Try.func106, Try.ntmps106
  go_wp2_with fail
  refine (c1 _ h).mono ?_
  rintro e w1 ⟨rfl, R1, K1⟩
  go_wp2_with fail
  refine (c2 _ R1).mono ?_
  rintro e w2 ⟨rfl, R2, K2⟩
  clear c1 c2
  go_wp2
  go_ret
  exact ⟨ret_int (by rw [HN.out, or_two x y hx hy]), R2, K1.trans K2⟩

set_option maxRecDepth 100000 in
set_option maxHeartbeats 400000 in
theorem Rd.entry {X : Array Value} {m : Nat × Nat} {p g cap : Nat} {s : ByteArray} {k : Nat} {w : World} (h : Rd X m p g cap s k w) (hk : k + 1 < s.size) (hL : s.size ≤ 1048576) :
    Calls Try.prog 107 #[.pointer (some ⟨p, 0, none⟩)] w fun e w' => e = .returned (.int .i64 (optN s k)) ∧ (Rd X m p g cap s (k + 2) w' ∧ Kept (fun b => b = p) w w') := by
  have c1 := h.number hk hL
  have HN : Hid (optN s k = if numN s k = 65535 then -1 else (numN s k : Int)) := rfl
  have hle := numN_le s k
  generalize numN s k = n at *
  by_cases hn : n = 65535
  · subst hn
    go_enter Try.func107, Try.ntmps107
    go_wp2_with fail
    refine c1.mono ?_
    rintro e w1 ⟨rfl, R1, K1⟩
    go_wp2
    go_ret
    exact ⟨ret_int (by rw [HN.out]; simp), R1, K1⟩
  · have hb : ((n : Int) == 65535) = false := by simp; omega
    have HF : Hid (optN s k = (n : Int)) := by show _ = _; rw [HN.out, if_neg hn]
    clear hn HN
    go_enter Try.func107, Try.ntmps107
    go_wp2_with fail
    refine c1.mono ?_
    rintro e w1 ⟨rfl, R1, K1⟩
    go_wp2
    go_ret
    exact ⟨ret_int HF.out.symm, R1, K1⟩

/-- A call of a Go function of one argument as one step of a region that draws its order. -/
theorem step_go1 {P : Program} {ops : Array Oper} {o : Oper} {a : Act} {w : World} {K : Act → World → Prop} {Q : Exit → Act → World → Prop} {E : Prop} (hgd : o.guard = none) (f : FuncId) (x : Operand) (ats : Array TypeId)
    (ho : o.op = .call { callee := .value (.func f), args := #[x], argTypes := ats }) (u : Value) (hu : a.eval x = u) (v : Value) (R : World → Prop) (hen : (callFunc f #[u]).run P w = .ok (.enter f #[u]) w)
    (hc : Calls P f #[u] w fun e w' => e = .returned v ∧ R w') (h : ∀ w', R w' → K (a.put o.dst v) w') :
    if Region.wanted o (yielded ops a.tmps) = true then Oper.wp P o a w K Q else E :=
  step_go hgd f #[x] ats ho #[u] (by simp [hu]) v R hen hc h
theorem enterPass (args : Array Value) (w : World) : (callFunc 105 args).run Try.prog w = .ok (.enter 105 args) w := by kernel_rfl
theorem enterNumber (args : Array Value) (w : World) : (callFunc 106 args).run Try.prog w = .ok (.enter 106 args) w := by kernel_rfl
theorem enterEntry (args : Array Value) (w : World) : (callFunc 107 args).run Try.prog w = .ok (.enter 107 args) w := by kernel_rfl

/-- Reading: the reader, the result's block, the table's block, the seven rows. -/
structure RdSt (w : World) (X : Array Value) (m : Nat × Nat) (p g cap : Nat) (s : ByteArray) (gt : Nat) (width : Int) (W : World) (v : Nat → Value) (l : Nat → List Int) (k : Nat) : Prop where
  kept : Kept (fun b => b = p) w W
  plt : p < w.heap.size
  glt : g < w.heap.size
  over : w.heap.size < gt
  lt : gt < W.heap.size
  res : W.heap[w.heap.size]? = some (.cells zeroA 48 (0, 0))
  row : W.heap[gt]? = some (.cells (rowA width v) 48 (0, 0))
  fam : Fam gt 7 W v l
  rd : Rd X m p g cap s k W
/-- What a region of 't.F = append(t.F, f())' leaves behind: W1 is the world behind the call and the new cell. -/
theorem RdSt.push {w W W1 W2 : World} {X : Array Value} {m : Nat × Nat} {p g cap : Nat} {s : ByteArray} {gt : Nat} {width : Int} {v : Nat → Value} {l : Nat → List Int} {k k' : Nat} (h : RdSt w X m p g cap s gt width W v l k) (hk : Kept (fun b => b = p) W W1) (hrd : Rd X m p g cap s k' W1) {i n off : Nat} (hi : i < 7) (ho : offA i = off) {xs : List Int} (hx : l i = xs) (hn : xs.length = n) {gg cc : Nat} {x : Int}
    (own : W2.ownsRow (gt + 1) 3 1 (.slice (some ⟨gg, 0, none⟩) (n + 1) cc) (n + 1) (xs.map intV ++ [.int .i64 x])) (grow : W1.grownBy W2 (v i).ownBlock) (at' : (v i).ownBlock = some gg ∨ gg = W1.heap.size) :
    RdSt w X m p g cap s gt width (W2.setCell ⟨gt, off, none⟩ (.slice (some ⟨gg, 0, none⟩) (n + 1) cc)) (upd v i (.slice (some ⟨gg, 0, none⟩) (n + 1) cc)) (updL l i (xs ++ [x])) k' := by
  subst hn; subst hx; subst ho
  have hz := hk.size
  have hlt := h.lt
  have hgt := h.over
  have hpl := h.plt
  have hgl := h.glt
  have hfar : ∀ b, b ≤ gt → some b ≠ (v i).ownBlock := fun b hbg hc => by have := owns_block (h.fam.own i hi) hc.symm; omega
  have k0 : ∀ b, b ≤ gt → W2.heap[b]? = W1.heap[b]? := fun b hbg => grow.block b (by omega) (hfar b hbg)
  have k1 : ∀ b, b ≤ gt → b ≠ p → W2.heap[b]? = W.heap[b]? := fun b hbg hne => (k0 b hbg).trans (hk.block b (by omega) hne)
  have hsz2 : W1.heap.size ≤ W2.heap.size := grow.size
  have hrow : W2.heap[gt]? = some (.cells (rowA width v) 48 (0, 0)) := (k1 gt (Nat.le_refl _) (by omega)).trans h.row
  have fam1 : Fam gt 7 W1 v l := h.fam.keep fun b hb hl => hk.block b hl (by omega)
  have hs1 := h.kept.size
  refine ⟨?_, hpl, hgl, hgt, by simp [World.setCell]; omega, ?_, ?_, ?_, ?_⟩
  · have hk2 : Kept (fun b => b = p) w W1 := h.kept.trans hk
    refine ⟨grow.os.trans hk2.os, grow.tape.trans hk2.tape, grow.output.trans hk2.output, by simp [World.setCell]; omega, fun b hb hn => ?_⟩
    rw [heap_setCell_other _ _ _ _ (by simp; omega)]
    exact (k0 b (by omega)).trans (hk2.block b hb hn)
  · rw [heap_setCell_other _ _ _ _ (by simp; omega)]
    exact (k1 _ (by omega) (by omega)).trans h.res
  · rw [← rowA_set width v i hi]
    exact heap_setCell_same _ _ _ _ _ _ hrow
  · exact (Fam.append fam1 hi own grow (at'.imp id (fun h => by omega))).set _ _
  · refine ⟨hrd.ne, ?_, ?_⟩
    · rw [heap_setCell_other _ _ _ _ (by simp; omega), k0 _ (by omega)]
      exact hrd.cur
    · rw [heap_setCell_other _ _ _ _ (by simp; omega), k0 _ (by omega)]
      exact hrd.row
theorem RdSt.mid {w W W1 W2 : World} {X : Array Value} {m : Nat × Nat} {p g cap : Nat} {s : ByteArray} {gt : Nat} {width : Int} {v : Nat → Value} {l : Nat → List Int} {k : Nat} (h : RdSt w X m p g cap s gt width W v l k) (hk : Kept (fun b => b = p) W W1) {i : Nat} (hi : i < 7) (grow : W1.grownBy W2 (v i).ownBlock) :
    (∀ o, W2.cell? ⟨gt, o, none⟩ = (rowA width v)[o]?) ∧ (∀ o, W2.frozen? ⟨gt, o, none⟩ = false) := by
  have hz := hk.size
  have hlt := h.lt
  have hpl := h.plt
  have hgt := h.over
  have hr : W2.heap[gt]? = some (.cells (rowA width v) 48 (0, 0)) := ((grow.block gt (by omega) (fun hc => by have := owns_block (h.fam.own i hi) hc.symm; omega)).trans (hk.block gt hlt (by omega))).trans h.row
  exact ⟨fun _ => cell_of_row _ _ _ _ _ _ hr, fun _ => frozen_of_row _ _ _ _ _ hr⟩
theorem RdSt.ownAt {w W W1 : World} {X : Array Value} {m : Nat × Nat} {p g cap : Nat} {s : ByteArray} {gt : Nat} {width : Int} {v : Nat → Value} {l : Nat → List Int} {k : Nat} (h : RdSt w X m p g cap s gt width W v l k) {i n : Nat} (hi : i < 7) {xs : List Int} (hx : l i = xs) (hn : xs.length = n) (hk : Kept (fun b => b = p) W W1) : W1.ownsRow (gt + 1) 3 1 (v i) n (xs.map intV) := by
  subst hn; subst hx
  have hpl := h.plt
  have hgt := h.over
  exact (h.fam.keep fun b hb hl => hk.block b hl (by omega)).own i hi
end Go.Proofs.Ytplhghhfdabccaa
