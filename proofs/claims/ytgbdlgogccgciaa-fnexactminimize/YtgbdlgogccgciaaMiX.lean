import Derived.Test.YtgbdlgogccgciaaMiW
import Derived.Test.YtgbdlgogccgciaaMiK
namespace Go.Proofs.Ytgbdlgogccgciaa
open Go.RowKit

/- COLUMNS AS TEXTS: two bytes a state. -/
def byteU (n : Nat) : UInt8 := UInt8.ofNat n
def colU (R : Nat → Nat → Nat) (c k : Nat) : List UInt8 := (List.range k).flatMap fun j => [byteU (R j c), byteU (R j c / 256)]
theorem colU_succ (R : Nat → Nat → Nat) (c k : Nat) : colU R c (k + 1) = colU R c k ++ [byteU (R k c), byteU (R k c / 256)] := by simp [colU, List.range_succ]
theorem colU_len (R : Nat → Nat → Nat) (c k : Nat) : (colU R c k).length = 2 * k := by
  induction k with
  | zero => rfl
  | succ k ih => rw [colU_succ, List.length_append, ih]; simp; omega
def colK (R : Nat → Nat → Nat) (K c : Nat) : ByteArray := ⟨(colU R c K).toArray⟩
theorem byteU_nat (n : Nat) : ((byteU n).toNat : Int) = (n : Int) % 256 := by
  unfold byteU
  rw [UInt8.toNat_ofNat']
  omega
theorem byteU_inj {m n : Nat} (hm : m < 65536) (hn : n < 65536) (h1 : byteU m = byteU n) (h2 : byteU (m / 256) = byteU (n / 256)) : m = n := by
  have a := congrArg UInt8.toNat h1
  have b := congrArg UInt8.toNat h2
  unfold byteU at a b
  rw [UInt8.toNat_ofNat', UInt8.toNat_ofNat'] at a b
  omega
theorem colU_eq {R : Nat → Nat → Nat} {h c : Nat} : ∀ {k : Nat}, (∀ j, j < k → R j h < 65536 ∧ R j c < 65536) → (colU R h k = colU R c k ↔ ∀ j, j < k → R j h = R j c)
  | 0, _ => by simp [colU]
  | k + 1, hb => by
    rw [colU_succ, colU_succ]
    constructor
    · intro e
      obtain ⟨e1, e2⟩ := List.append_inj e (by rw [colU_len, colU_len])
      have ih := (colU_eq (fun j hj => hb j (by omega))).1 e1
      intro j hj
      by_cases hjk : j = k
      · subst hjk
        simp only [List.cons.injEq, and_true] at e2
        exact byteU_inj (hb j hj).1 (hb j hj).2 e2.1 e2.2
      · exact ih j (by omega)
    · intro e
      rw [(colU_eq (fun j hj => hb j (by omega))).2 (fun j hj => e j (by omega)), e k (by omega)]
theorem colK_eq {R : Nat → Nat → Nat} {K h c : Nat} (hb : ∀ j, j < K → R j h < 65536 ∧ R j c < 65536) : colK R K h = colK R K c ↔ colEq K R h c = true := by
  rw [colEq_iff, ← colU_eq hb]
  unfold colK
  constructor
  · intro e
    have := congrArg (fun b : ByteArray => b.data.toList) e
    simpa using this
  · intro e; rw [e]
/-- The register's keys are the heads' columns. -/
theorem heads_idx {R : Nat → Nat → Nat} {K c : Nat} (hb : ∀ j x, j < K → x ≤ c → R j x < 65536) : idxR ((headsF K R c).map (colK R K)) (colK R K c) = clsF K R c := by
  unfold idxR clsF
  rw [List.findIdx_map]
  have key : ∀ (l : List Nat), (∀ h ∈ l, h < c) → l.findIdx ((fun x => decide (colK R K c = x)) ∘ colK R K) = l.findIdx (fun h => colEq K R h c) := by
    intro l
    induction l with
    | nil => intro _; rfl
    | cons x l ih =>
      intro hl
      rw [List.findIdx_cons, List.findIdx_cons, ih (fun h hh => hl h (by simp [hh]))]
      have hx := hl x (by simp)
      have e : ((fun y => decide (colK R K c = y)) ∘ colK R K) x = colEq K R x c := by
        show decide (colK R K c = colK R K x) = _
        rw [Bool.eq_iff_iff, decide_eq_true_iff]
        rw [← colK_eq (fun j hj => ⟨hb j x hj (by omega), hb j c hj (Nat.le_refl _)⟩)]
        exact ⟨fun e => e.symm, fun e => e.symm⟩
      rw [e]
  exact key _ (heads_lt K R c)
theorem heads_new {R : Nat → Nat → Nat} {K c : Nat} (hb : ∀ j x, j < K → x ≤ c → R j x < 65536) : colK R K c ∈ (headsF K R c).map (colK R K) ↔ clsF K R c < (headsF K R c).length := by
  rw [← idxR_lt, heads_idx hb, List.length_map]
theorem heads_add {R : Nat → Nat → Nat} {K c : Nat} (hb : ∀ j x, j < K → x ≤ c → R j x < 65536) : addR ((headsF K R c).map (colK R K)) (colK R K c) = (headsF K R (c + 1)).map (colK R K) := by
  unfold addR
  rw [headsF_succ]
  by_cases h : clsF K R c < (headsF K R c).length
  · rw [if_pos ((heads_new hb).2 h), if_pos h]
  · rw [if_neg (fun k => h ((heads_new hb).1 k)), if_neg h]; simp

/- THE STATE OF minimal. -/
def bytU (l : List UInt8) : List Value := l.map fun b => Value.int .u8 b.toNat
theorem bytU_len (l : List UInt8) : (bytU l).length = l.length := by simp [bytU]
structure MmS (W8 : World) (W : World) (width : Int) (v : Nat → Value) (ls : Nat → List Int) (keys : List ByteArray) (p9 g9 c9 : Nat) (xs : List UInt8) : Prop where
  hd : HdS W8 W8.heap.size W width v ls
  b7 : W.heap[W8.heap.size + 1 + 1]? = some (.cells #[v 4] 22 (0, 0))
  mp : W.heap[W8.heap.size + 1 + 1 + 1]? = some (.map (regE Value.string keys) keys.length)
  b8 : W.heap[W8.heap.size + 1 + 1 + 1 + 1]? = some (.cells #[.map (some (W8.heap.size + 1 + 1 + 1))] 49 (0, 0))
  col : W.ownsRow (W8.heap.size + 1) 5 1 (.slice (some ⟨g9, 0, none⟩) xs.length c9) xs.length (bytU xs)
  b9 : W.heap[p9]? = some (.cells #[.slice (some ⟨g9, 0, none⟩) xs.length c9] 50 (0, 0))
  ge9 : W8.heap.size + 5 ≤ p9
section
variable {W8 W W' : World} {width : Int} {v : Nat → Value} {ls : Nat → List Int} {keys : List ByteArray} {p9 g9 c9 : Nat} {xs : List UInt8}
theorem MmS.size (h : MmS W8 W width v ls keys p9 g9 c9 xs) : W8.heap.size + 6 ≤ W.heap.size := by have := row_lt h.b9; have := h.ge9; omega
theorem MmS.on (h : MmS W8 W width v ls keys p9 g9 c9 xs) (hb : Below W.heap.size W W') : MmS W8 W' width v ls keys p9 g9 c9 xs :=
  ⟨h.hd.on hb, row_below h.b7 hb, row_below h.mp hb, row_below h.b8 hb, ownsRow_below h.col hb, row_below h.b9 hb, h.ge9⟩
theorem MmS.colBlock (h : MmS W8 W width v ls keys p9 g9 c9 xs) : ∃ cs, W.heap[g9]? = some (.cells cs 5 (0, 0)) ∧ W8.heap.size + 1 ≤ g9 := by
  obtain ⟨h1, cur, h2⟩ := own_blockT h.col (k := g9) rfl
  exact ⟨cur, h2, h1⟩
/-- A row of the family has grown. -/
theorem MmS.others (h : MmS W8 W width v ls keys p9 g9 c9 xs) {i : Nat} (hi : i < 5) (hg : W.grownBy W' (v i).ownBlock) : W'.heap[W8.heap.size + 1 + 1]? = some (.cells #[v 4] 22 (0, 0)) ∧ W'.heap[W8.heap.size + 1 + 1 + 1]? = some (.map (regE Value.string keys) keys.length) ∧ W'.heap[W8.heap.size + 1 + 1 + 1 + 1]? = some (.cells #[.map (some (W8.heap.size + 1 + 1 + 1))] 49 (0, 0)) ∧ W'.ownsRow (W8.heap.size + 1) 5 1 (.slice (some ⟨g9, 0, none⟩) xs.length c9) xs.length (bytU xs) ∧ W'.heap[p9]? = some (.cells #[.slice (some ⟨g9, 0, none⟩) xs.length c9] 50 (0, 0)) := by
  have o : ∀ {b : Nat} {cs : Array Value} {e : TypeId}, e ≠ 3 → W.heap[b]? = some (.cells cs e (0, 0)) → W'.heap[b]? = some (.cells cs e (0, 0)) := fun he hb => h.hd.fam.others hi hg he hb
  refine ⟨o (by decide) h.b7, (hg.block _ (Array.getElem?_eq_some_iff.1 h.mp).1 (fun e => ?_)).trans h.mp, o (by decide) h.b8, own_keepM h.col fun b cs hb => o (by decide) hb, o (by decide) h.b9⟩
  obtain ⟨cs, hc⟩ := owns_int (h.hd.fam.own i hi) e.symm
  exact cells_map (hc.symm.trans h.mp)
/-- A field of the answer appended to. -/
theorem MmS.field (h : MmS W8 W width v ls keys p9 g9 c9 xs) {i off : Nat} (hi : i < 4) (ho : offD i = off) {u : Value} {ys : List Int} (hF : Fam W8.heap.size 5 W' (upd v i u) (updL ls i ys)) (hg : W.grownBy W' (v i).ownBlock) :
    W'.heap[W8.heap.size]? = some (.cells (rowD width v) 26 (0, 0)) ∧ MmS W8 (W'.setCell ⟨W8.heap.size, off, none⟩ u) width (upd v i u) (updL ls i ys) keys p9 g9 c9 xs := by
  obtain ⟨hbx, hd⟩ := h.hd.fieldAt hi ho hF hg
  obtain ⟨a, b, c, e, f⟩ := h.others (i := i) (by omega) hg
  have s : ∀ {x : Nat} {ob : Obj}, x ≠ W8.heap.size → W'.heap[x]? = some ob → (W'.setCell ⟨W8.heap.size, off, none⟩ u).heap[x]? = some ob := fun hx hh => (heap_setCell_other _ _ _ _ (by exact hx)).trans hh
  obtain ⟨_, cur, hcur⟩ := own_blockT e (k := g9) rfl
  refine ⟨hbx, hd, by rw [upd_ne _ _ (by omega)]; exact s (by omega) a, s (by omega) b, s (by omega) c, own_keepM e fun x cs hx => s (fun e2 => ?_) hx, s (by have := h.ge9; omega) f, h.ge9⟩
  rw [e2, hbx] at hx
  exact absurd (cells_typeM hx) (by decide)
theorem MmS.width' (h : MmS W8 W width v ls keys p9 g9 c9 xs) (n : Int) : MmS W8 (W.setCell ⟨W8.heap.size, 1, none⟩ (.int .i64 n)) n v ls keys p9 g9 c9 xs := by
  have s : ∀ {x : Nat} {ob : Obj}, x ≠ W8.heap.size → W.heap[x]? = some ob → (W.setCell ⟨W8.heap.size, 1, none⟩ (.int .i64 n)).heap[x]? = some ob := fun hx hh => (heap_setCell_other _ _ _ _ (by exact hx)).trans hh
  refine ⟨h.hd.width n, s (by omega) h.b7, s (by omega) h.mp, s (by omega) h.b8, own_keepM h.col fun x cs hx => s (fun e2 => ?_) hx, s (by have := h.ge9; omega) h.b9, h.ge9⟩
  rw [e2, h.hd.box] at hx
  exact absurd (cells_typeM hx) (by decide)
/-- A head more. -/
theorem MmS.head (h : MmS W8 W width v ls keys p9 g9 c9 xs) {u : Value} {ys : List Int} (hF : Fam W8.heap.size 5 W' (upd v 4 u) (updL ls 4 ys)) (hg : W.grownBy W' (v 4).ownBlock) :
    W'.cell? ⟨W8.heap.size + 1 + 1, 0, none⟩ = some (v 4) ∧ W'.frozen? ⟨W8.heap.size + 1 + 1, 0, none⟩ = false ∧ MmS W8 (W'.setCell ⟨W8.heap.size + 1 + 1, 0, none⟩ u) width (upd v 4 u) (updL ls 4 ys) keys p9 g9 c9 xs := by
  have hd := h.hd.heads hF hg
  obtain ⟨a, b, c, e, f⟩ := h.others (i := 4) (by omega) hg
  have s : ∀ {x : Nat} {ob : Obj}, x ≠ W8.heap.size + 1 + 1 → W'.heap[x]? = some ob → (W'.setCell ⟨W8.heap.size + 1 + 1, 0, none⟩ u).heap[x]? = some ob := fun hx hh => (heap_setCell_other _ _ _ _ (by exact hx)).trans hh
  refine ⟨by rw [cell_of_row _ _ _ _ _ _ a]; rfl, frozen_of_row _ _ 0 _ _ a, ⟨hd.fam.other a (by decide) (grown_putM _ _ _ _), s (by omega) hd.box, hd.below.setCell (p := ⟨W8.heap.size + 1 + 1, 0, none⟩) (by show W8.heap.size ≤ W8.heap.size + 1 + 1; omega) _, rfl⟩, ?_, s (by omega) b, s (by omega) c, own_keepM e fun x cs hx => s (fun e2 => ?_) hx, s (by have := h.ge9; omega) f, h.ge9⟩
  · rw [upd_same]; exact heap_setCell_same _ _ _ _ _ _ a
  · rw [e2, a] at hx
    exact absurd (cells_typeM hx) (by decide)
/-- The register has turned. -/
theorem MmS.reg (h : MmS W8 W width v ls keys p9 g9 c9 xs) {keys' : List ByteArray} (hg : W.grownBy W' (some (W8.heap.size + 1 + 1 + 1))) (hm : W'.heap[W8.heap.size + 1 + 1 + 1]? = some (.map (regE Value.string keys') keys'.length)) : MmS W8 W' width v ls keys' p9 g9 c9 xs := by
  have o : ∀ {b : Nat} {cs : Array Value} {e : TypeId}, W.heap[b]? = some (.cells cs e (0, 0)) → W'.heap[b]? = some (.cells cs e (0, 0)) := fun hb => (hg.block _ (row_lt hb) (fun e => by
    have e2 := Option.some.inj e
    rw [e2] at hb
    exact cells_map (hb.symm.trans h.mp))).trans hb
  refine ⟨⟨h.hd.fam.keepO fun i hi b hb => ?_, o h.hd.box, h.hd.below.grown hg (by have := h.size; omega) (fun b hb => by cases hb; omega), rfl⟩, o h.b7, hm, o h.b8, own_keepM h.col fun b cs hb => o hb, o h.b9, h.ge9⟩
  obtain ⟨cs, hc⟩ := owns_int (h.hd.fam.own i hi) hb
  rw [o hc, hc]
/-- The column has grown, up to the store. -/
theorem MmS.column (h : MmS W8 W width v ls keys p9 g9 c9 xs) {g' c' : Nat} {ys : List UInt8} (ho : W'.ownsRow (W8.heap.size + 1) 5 1 (.slice (some ⟨g', 0, none⟩) ys.length c') ys.length (bytU ys)) (hg : W.grownBy W' (some g9)) :
    W'.cell? ⟨p9, 0, none⟩ = some (.slice (some ⟨g9, 0, none⟩) xs.length c9) ∧ W'.frozen? ⟨p9, 0, none⟩ = false ∧ MmS W8 (W'.setCell ⟨p9, 0, none⟩ (.slice (some ⟨g', 0, none⟩) ys.length c')) width v ls keys p9 g' c' ys := by
  obtain ⟨cs9, h9, hge⟩ := h.colBlock
  have o : ∀ {b : Nat} {cs : Array Value} {e : TypeId}, e ≠ 5 → W.heap[b]? = some (.cells cs e (0, 0)) → W'.heap[b]? = some (.cells cs e (0, 0)) := fun he hb => (hg.block _ (row_lt hb) (fun e => by
    have e2 := Option.some.inj e
    rw [e2, h9] at hb
    exact he (cells_typeM hb).symm)).trans hb
  have x9 := o (by decide) h.b9
  have s : ∀ {x : Nat} {ob : Obj}, x ≠ p9 → W'.heap[x]? = some ob → (W'.setCell ⟨p9, 0, none⟩ (.slice (some ⟨g', 0, none⟩) ys.length c')).heap[x]? = some ob := fun hx hh => (heap_setCell_other _ _ _ _ (by exact hx)).trans hh
  have st : ∀ {x : Nat} {cs : Array Value} {e : TypeId}, e ≠ 50 → W'.heap[x]? = some (.cells cs e (0, 0)) → (W'.setCell ⟨p9, 0, none⟩ (.slice (some ⟨g', 0, none⟩) ys.length c')).heap[x]? = some (.cells cs e (0, 0)) := fun he hh => s (fun e2 => by rw [e2, x9] at hh; exact he (cells_typeM hh).symm) hh
  have hmp : W'.heap[W8.heap.size + 1 + 1 + 1]? = some (.map (regE Value.string keys) keys.length) := (hg.block _ (Array.getElem?_eq_some_iff.1 h.mp).1 (fun e => by
    have e2 := Option.some.inj e
    rw [← e2] at h9
    exact cells_map (h9.symm.trans h.mp))).trans h.mp
  refine ⟨by rw [cell_of_row _ _ _ _ _ _ x9]; rfl, frozen_of_row _ _ 0 _ _ x9, ⟨h.hd.fam.keepO fun i hi b hb => ?_, st (by decide) (o (by decide) h.hd.box), (h.hd.below.grown hg (by have := h.size; omega) (fun b hb => by cases hb; omega)).setCell (p := ⟨p9, 0, none⟩) (by show W8.heap.size ≤ p9; have := h.ge9; omega) _, rfl⟩, st (by decide) (o (by decide) h.b7), s (by have := h.ge9; omega) hmp, st (by decide) (o (by decide) h.b8), own_keepM ho fun x cs hx => st (by decide) hx, heap_setCell_same _ _ _ _ _ _ x9, h.ge9⟩
  obtain ⟨cs, hc⟩ := owns_int (h.hd.fam.own i hi) hb
  rw [st (by decide) (o (by decide) hc), hc]
/-- The column made empty. -/
theorem MmS.empty (h : MmS W8 W width v ls keys p9 g9 c9 xs) : MmS W8 (W.setCell ⟨p9, 0, none⟩ (.slice (some ⟨g9, 0, none⟩) 0 c9)) width v ls keys p9 g9 c9 [] := by
  have ho : W.ownsRow (W8.heap.size + 1) 5 1 (.slice (some ⟨g9, 0, none⟩) 0 c9) 0 (bytU []) := by
    refine ⟨rfl, ?_⟩
    rcases h.col.2 with ⟨h0, _⟩ | ⟨g', cap', cur, hv', hg, hh, hnc, hcap, hsz, ht⟩
    · cases h0
    · cases hv'
      exact .inr ⟨g9, c9, cur, rfl, hg, hh, Nat.zero_le _, hcap, hsz, by simp [bytU]⟩
  exact (h.column (ys := []) ho (World.grownBy.refl _ _)).2.2
end
end Go.Proofs.Ytgbdlgogccgciaa
