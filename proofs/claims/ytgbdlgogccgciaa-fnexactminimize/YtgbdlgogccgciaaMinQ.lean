import Derived.Test.YtgbdlgogccgciaaMinO
import Derived.Deep.AppendLies
import Derived.Deep.RegionLaw
namespace Go.Proofs.Ytgbdlgogccgciaa
open Go.RowKit

theorem Try.infoIntsD : (Try.prog.info? 22).map (fun i => (i.zero, i.size, i.bytes)) = some (some (.slice none 0 0), 1, 24) := by kernel_rfl
/-- append of one number to row i of a family, as a step of a region that draws. -/
theorem step_fam {ops : Array Oper} {o : Oper} {a : Act} {K : Act → World → Prop} {Q : Exit → Act → World → Prop} {E : Prop} {W W1 : World} {gt n : Nat} {v : Nat → Value} {l : Nat → List Int} (S : Fam gt n W v l) (hgd : o.guard = none) (s x : Operand)
    (ho : o.op = .call { callee := .builtin .append, args := #[s, x], argTypes := #[22, 22] }) (i : Nat) (hi : i < n) (xs : List Int) (hxs : l i = xs) (m : Nat) (hn : xs.length = m) (hs : a.eval s = v i) (y : Int) (hx : a.eval x = .slice (some ⟨W.heap.size, 0, none⟩) 1 1) (hl : m ≤ 2000000) (hB : gt + 1 ≤ W.heap.size)
    (hb : Below W.heap.size W W1) (hsz : W1.heap.size = W.heap.size + 1) (hnew : W1.heap[W.heap.size]? = some (.cells #[.int .i64 y] 3 (0, 0)))
    (h : ∀ g cap W', Fam gt n W' (upd v i (.slice (some ⟨g, 0, none⟩) (m + 1) cap)) (updL l i (xs ++ [y])) → W.grownBy W' (v i).ownBlock → K (a.put o.dst (.slice (some ⟨g, 0, none⟩) (m + 1) cap)) W') :
    if Region.wanted o (yielded ops a.tmps) = true then Oper.wp Try.prog o a W1 K Q else E := by
  subst hn; subst hxs
  obtain ⟨i0, hi0, hz0, hz1, hz2⟩ := info_parts Try.infoInt
  have own : W1.ownsRow (gt + 1) 3 1 (v i) (l i).length ((l i).map intV) := (S.below hb).own i hi
  refine step_append_lies _ hgd s x 22 ho (gt + 1) 3 i0 _ 1 8 Try.underlying22 hi0 hz0 hz1 hz2 rfl (by omega) (v i) (l i).length ((l i).map intV) hs own ⟨W.heap.size, 0, none⟩ 1 1 [.int .i64 y] hx rfl (one_newD hnew) (by intro u hu; simp at hu; subst hu; rfl) (by omega) (by unfold maxLen; omega) (by omega) (by omega) (W.heap.size + 1) hsz ?_
  intro g cap W' own' grow' at' _
  refine h g cap W' (Fam.append (S.below hb) hi own' grow' (at'.imp id (fun h => by omega))) ?_
  exact ⟨grow'.os.trans hb.os, grow'.tape.trans hb.tape, grow'.output.trans hb.output, Nat.le_trans hb.size grow'.size, fun k hk hne => (grow'.block k (by have := hb.size; omega) hne).trans (hb.block k hk)⟩

/- append as one word, for a region that draws. -/
def appD (ats : Array TypeId) (ty : TypeId) (args : Array Value) : Sem Value := Builtin.append_ ats ty args
theorem append_appD (ty : TypeId) (args : Array Value) : Builtin.append_ #[22, 22] ty args = appD #[22, 22] ty args := rfl
theorem app_fam {W : World} {gt n : Nat} {v : Nat → Value} {l : Nat → List Int} (S : Fam gt n W v l) (i : Nat) (hi : i < n) (xs : List Int) (hxs : l i = xs) (m : Nat) (hn : xs.length = m) (vi : Value) (hv : v i = vi) (y : Int) (hl : m ≤ 2000000) (hB : gt + 1 ≤ W.heap.size) (ty : TypeId) :
    ∃ g cap W', (appD #[22, 22] ty #[vi, .slice (some ⟨W.heap.size, 0, none⟩) 1 1]).run Try.prog ((W.alloc (.cells #[.int .i64 y] 3)).drew) = .ok (.slice (some ⟨g, 0, none⟩) (m + 1) cap) W' ∧ Fam gt n W' (upd v i (.slice (some ⟨g, 0, none⟩) (m + 1) cap)) (updL l i (xs ++ [y])) ∧ W.grownBy W' (v i).ownBlock := by
  subst hn; subst hxs; subst hv
  obtain ⟨i0, hi0, hz0, hz1, hz2⟩ := info_parts Try.infoInt
  have hb : Below W.heap.size W ((W.alloc (.cells #[.int .i64 y] 3)).drew) := ((Below.refl _ _).alloc (Nat.le_refl _) _).drew
  have own : ((W.alloc (.cells #[.int .i64 y] 3)).drew).ownsRow (gt + 1) 3 1 (v i) (l i).length ((l i).map intV) := (S.below hb).own i hi
  have hsz : ((W.alloc (.cells #[.int .i64 y] 3)).drew).heap.size = W.heap.size + 1 := by simp
  obtain ⟨g, cap, W', hr, own', grow', at', _⟩ := run_append_lies (P := Try.prog) ((W.alloc (.cells #[.int .i64 y] 3)).drew) 22 ty (gt + 1) 3 i0 _ 1 8 Try.underlying22 hi0 hz0 hz1 hz2 rfl (by omega) (v i) (l i).length ((l i).map intV) own ⟨W.heap.size, 0, none⟩ 1 1 [.int .i64 y] rfl (one_newD (row_drew (heap_alloc_new _ _))) (by intro u hu; simp at hu; subst hu; rfl) (by omega) (by unfold maxLen; omega) (by omega) (by omega) (W.heap.size + 1) hsz
  refine ⟨g, cap, W', hr, Fam.append (S.below hb) hi own' grow' (at'.imp id (fun h => by omega)), ?_⟩
  exact ⟨grow'.os.trans hb.os, grow'.tape.trans hb.tape, grow'.output.trans hb.output, Nat.le_trans hb.size grow'.size, fun k hk hne => (grow'.block k (by have := hb.size; omega) hne).trans (hb.block k hk)⟩

/- WHERE THE ANSWER IS BEING WRITTEN: rows 0 to 3 its fields, row 4 the heads. -/
def offD (i : Nat) : Nat := if i = 0 then 0 else i + 1
theorem rowD_set (width : Int) (v : Nat → Value) (i : Nat) (hi : i < 4) (u : Value) : (rowD width v).setIfInBounds (offD i) u = rowD width (upd v i u) := by
  match i, hi with
  | 0, _ => rfl
  | 1, _ => rfl
  | 2, _ => rfl
  | 3, _ => rfl
theorem rowD_four (width : Int) (v : Nat → Value) (u : Value) : rowD width (upd v 4 u) = rowD width v := rfl
theorem row_D {w : World} {g : Nat} {width : Int} {v : Nat → Value} {t : TypeId} (h : w.heap[g]? = some (.cells (rowD width v) t (0, 0))) : w.cell? ⟨g, 0, none⟩ = some (v 0) ∧ w.cell? ⟨g, 1, none⟩ = some (.int .i64 width) ∧ w.cell? ⟨g, 2, none⟩ = some (v 1) ∧ w.cell? ⟨g, 3, none⟩ = some (v 2) ∧ w.cell? ⟨g, 4, none⟩ = some (v 3) := row_five h
structure HdS (W8 : World) (gm : Nat) (W : World) (width : Int) (v : Nat → Value) (ls : Nat → List Int) : Prop where
  fam : Fam gm 5 W v ls
  box : W.heap[gm]? = some (.cells (rowD width v) 26 (0, 0))
  below : Below gm W8 W
  top : W8.heap.size = gm
theorem HdS.size {W8 W : World} {gm : Nat} {width : Int} {v : Nat → Value} {ls : Nat → List Int} (h : HdS W8 gm W width v ls) : gm + 1 ≤ W.heap.size := row_lt h.box
theorem HdS.on {W8 W W' : World} {gm : Nat} {width : Int} {v : Nat → Value} {ls : Nat → List Int} (h : HdS W8 gm W width v ls) (hb : Below W.heap.size W W') : HdS W8 gm W' width v ls :=
  ⟨h.fam.below hb, row_below h.box hb, h.below.trans (hb.mono (Nat.le_trans (Nat.le_succ _) h.size)), h.top⟩
theorem HdS.heads {W8 W W' : World} {gm : Nat} {width : Int} {v : Nat → Value} {ls : Nat → List Int} (h : HdS W8 gm W width v ls) {u : Value} {ys : List Int} (hF : Fam gm 5 W' (upd v 4 u) (updL ls 4 ys)) (hg : W.grownBy W' (v 4).ownBlock) : HdS W8 gm W' width (upd v 4 u) (updL ls 4 ys) :=
  ⟨hF, by rw [rowD_four]; exact h.fam.others (i := 4) (by omega) hg (by decide) h.box, h.below.grown hg (Nat.le_trans (Nat.le_succ _) h.size) (fun b hb => by have := (owns_block (h.fam.own 4 (by omega)) hb).1; omega), h.top⟩
theorem HdS.field {W8 W W' : World} {gm : Nat} {width : Int} {v : Nat → Value} {ls : Nat → List Int} (h : HdS W8 gm W width v ls) {i : Nat} (hi : i < 4) {u : Value} {ys : List Int} (hF : Fam gm 5 W' (upd v i u) (updL ls i ys)) (hg : W.grownBy W' (v i).ownBlock) :
    W'.heap[gm]? = some (.cells (rowD width v) 26 (0, 0)) ∧ HdS W8 gm (W'.setCell ⟨gm, offD i, none⟩ u) width (upd v i u) (updL ls i ys) := by
  have hbx := h.fam.others (i := i) (by omega) hg (by decide) h.box
  refine ⟨hbx, hF.set _ _, ?_, (h.below.grown hg (Nat.le_trans (Nat.le_succ _) h.size) (fun b hb => by have := (owns_block (h.fam.own i (by omega)) hb).1; omega)).setCell (Nat.le_refl _) _, h.top⟩
  have := heap_setCell_same W' gm (offD i) _ _ u hbx
  rw [rowD_set _ _ _ hi] at this
  exact this
theorem HdS.fieldAt {W8 W W' : World} {gm : Nat} {width : Int} {v : Nat → Value} {ls : Nat → List Int} (h : HdS W8 gm W width v ls) {i off : Nat} (hi : i < 4) (ho : offD i = off) {u : Value} {ys : List Int} (hF : Fam gm 5 W' (upd v i u) (updL ls i ys)) (hg : W.grownBy W' (v i).ownBlock) :
    W'.heap[gm]? = some (.cells (rowD width v) 26 (0, 0)) ∧ HdS W8 gm (W'.setCell ⟨gm, off, none⟩ u) width (upd v i u) (updL ls i ys) := by
  subst ho
  exact h.field hi hF hg
theorem HdS.width {W8 W : World} {gm : Nat} {width : Int} {v : Nat → Value} {ls : Nat → List Int} (h : HdS W8 gm W width v ls) (n : Int) : HdS W8 gm (W.setCell ⟨gm, 1, none⟩ (.int .i64 n)) n v ls := by
  refine ⟨h.fam.set _ _, ?_, h.below.setCell (Nat.le_refl _) _, h.top⟩
  have := heap_setCell_same W gm 1 _ _ (.int .i64 n) h.box
  exact this
theorem HdS.start {W8 : World} : HdS W8 W8.heap.size ((W8.alloc (.cells zeroD 26)).alloc (.cells #[] 3)) 0 (upd (fun _ => .slice none 0 0) 4 (.slice (some ⟨W8.heap.size + 1, 0, none⟩) 0 0)) (updL (fun _ => []) 4 []) := by
  have hb1 : Below W8.heap.size W8 (W8.alloc (.cells zeroD 26)) := (Below.refl _ _).alloc (Nat.le_refl _) _
  have e : (W8.alloc (.cells zeroD 26)).heap.size = W8.heap.size + 1 := by simp
  have hF := Fam.new (Fam.nil W8.heap.size 4 (W8.alloc (.cells zeroD 26))) (by omega)
  rw [e] at hF
  refine ⟨hF, ?_, hb1.alloc hb1.size _, rfl⟩
  exact (Below.heap_alloc _ _ _ (by simp)).trans (heap_alloc_new W8 _)
theorem going_le {st : Nat → Nat → Nat} {an : Nat → Int × Int} {k : Nat} (h : Going st an k) : k ≤ (walkA st an k 0).length := by
  cases k with
  | zero => exact Nat.zero_le _
  | succ k =>
    have h1 := h k (by omega)
    obtain ⟨t, ht⟩ := walkA_pre st an k (k + 1) (by omega)
    rw [ht, List.length_append]
    omega
/-- The rows of numbers, as long as all elder blocks stand. -/
theorem OrS.cells {d : DfaD} {W5 W : World} {gt k g cap n : Nat} {v : Nat → Value} {ls : Nat → List Int} {os : List Nat} (h : OrS d W5 gt W k (.slice (some ⟨g, 0, none⟩) k cap) v ls os n) (hn : k < n) : ∀ W', Below W.heap.size W W' → ∀ x, x < k → ∃ gx cx, W'.cell? ⟨g, x, none⟩ = some (.slice (some ⟨gx, 0, none⟩) 256 cx) ∧ ∀ c, c < 256 → W'.cell? ⟨gx, c, none⟩ = some (.int .i64 ((rwA d x c : Nat) : Int)) := by
  intro W' hb x hx
  have h' := h.on hb
  have ho := h'.fam.own (x + 1) (by omega)
  rw [h'.lk x hx] at ho
  obtain ⟨gx, cx, e, _, _, hc⟩ := owns_some ho (by rw [rowP_len]; omega)
  rw [rowP_len] at e
  refine ⟨gx, cx, ?_, fun c hc' => ?_⟩
  · rw [h'.out.cellAt x (by omega)]
    simp [rowsV, hx, e]
  · rw [hc c (by rw [rowP_len]; exact hc'), rowP_get _ _ hc']
/-- The next states of the first q. -/
def nextP (R : Nat → Nat → Nat) (hd : List Nat) (q : Nat) : List Int := (List.range q).flatMap fun k => hd.map fun h => (R k h : Int)
theorem nextP_succ (R : Nat → Nat → Nat) (hd : List Nat) (q : Nat) : nextP R hd (q + 1) = nextP R hd q ++ hd.map fun h => (R q h : Int) := by simp [nextP, List.range_succ]
theorem nextP_len (R : Nat → Nat → Nat) (hd : List Nat) (q : Nat) : (nextP R hd q).length = q * hd.length := by
  induction q with
  | zero => simp [nextP]
  | succ q ih => rw [nextP_succ, List.length_append, ih, List.length_map, Nat.succ_mul]
def nextJ (R : Nat → Nat → Nat) (hd : List Nat) (q j : Nat) : List Int := nextP R hd q ++ (hd.take j).map fun h => (R q h : Int)
theorem nextJ_zero (R : Nat → Nat → Nat) (hd : List Nat) (q : Nat) : nextJ R hd q 0 = nextP R hd q := by simp [nextJ]
theorem nextJ_end (R : Nat → Nat → Nat) (hd : List Nat) (q : Nat) : nextJ R hd q hd.length = nextP R hd (q + 1) := by rw [nextP_succ]; simp [nextJ]
theorem nextJ_succ (R : Nat → Nat → Nat) (hd : List Nat) (q : Nat) {j : Nat} (hj : j < hd.length) : nextJ R hd q (j + 1) = nextJ R hd q j ++ [(R q (hd.getD j 0) : Int)] := by
  unfold nextJ
  rw [List.append_assoc]
  congr 1
  rw [List.getD_eq_getElem?_getD, List.getElem?_eq_getElem hj, List.take_succ_eq_append_getElem hj, List.map_append]
  rfl
theorem nextJ_len (R : Nat → Nat → Nat) (hd : List Nat) {q j : Nat} (hq : q ≤ 4000) (hd2 : hd.length ≤ 256) : (nextJ R hd q j).length ≤ 1100000 := by
  unfold nextJ
  rw [List.length_append, nextP_len, List.length_map, List.length_take]
  have := Nat.mul_le_mul hq hd2
  omega
theorem take_mapN (f : Nat → Int) (os : List Nat) {q : Nat} (h : q < os.length) : (os.take (q + 1)).map f = (os.take q).map f ++ [f (os.getD q 0)] := by
  rw [List.getD_eq_getElem?_getD, List.getElem?_eq_getElem h, List.take_succ_eq_append_getElem h, List.map_append]
  rfl
theorem Alikes.answers {d : DfaD} {os ws : List Nat} (h : Alikes (stN d) (anN d) os ws) : (os.map fun s => d.tag.getD s 0) = (ws.map fun s => d.tag.getD s 0) ∧ (os.map fun s => d.fin.getD s 0) = (ws.map fun s => d.fin.getD s 0) := by
  induction h with
  | nil => exact ⟨rfl, rfl⟩
  | cons h1 _ ih =>
    have := h1.an
    unfold anN at this
    injection this with t1 t2
    exact ⟨by rw [List.map_cons, List.map_cons, t1, ih.1], by rw [List.map_cons, List.map_cons, t2, ih.2]⟩
theorem Fam.setLowD {gt n b : Nat} {W : World} {v : Nat → Value} {l : Nat → List Int} (h : Fam gt n W v l) (hb : b ≤ gt) (o : Nat) (u : Value) : Fam gt n (W.setCell ⟨b, o, none⟩ u) v l := h.keep fun c hc _ => heap_setCell_other _ _ _ _ (by simp; omega)
def set5 (W : World) (b : Nat) (u0 u1 u2 u3 u4 : Value) : World := ((((W.setCell ⟨b, 0, none⟩ u0).setCell ⟨b, 1, none⟩ u1).setCell ⟨b, 2, none⟩ u2).setCell ⟨b, 3, none⟩ u3).setCell ⟨b, 4, none⟩ u4
theorem below_set5 {B b : Nat} {w W : World} (h : Below B w W) (hb : B ≤ b) (u0 u1 u2 u3 u4 : Value) : Below B w (set5 W b u0 u1 u2 u3 u4) :=
  ((((h.setCell (by exact hb) _).setCell (by exact hb) _).setCell (by exact hb) _).setCell (by exact hb) _).setCell (by exact hb) _
theorem Fam.set5 {gt n b : Nat} {W : World} {v : Nat → Value} {l : Nat → List Int} (h : Fam gt n W v l) (hb : b ≤ gt) (u0 u1 u2 u3 u4 : Value) : Fam gt n (set5 W b u0 u1 u2 u3 u4) v l :=
  ((((h.setLowD hb _ _).setLowD hb _ _).setLowD hb _ _).setLowD hb _ _).setLowD hb _ _
theorem Fam.takeD {gt n m : Nat} {W : World} {v : Nat → Value} {l : Nat → List Int} (h : Fam gt n W v l) (hm : m ≤ n) : Fam gt m W v l :=
  ⟨fun i hi => h.own i (by omega), fun i j hi hj => h.apart i j (by omega) (by omega)⟩
end Go.Proofs.Ytgbdlgogccgciaa
