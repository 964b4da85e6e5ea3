import Derived.Test.YtgbdlgogccgciaaGreatDoorRows
import Derived.WalkKit
import Derived.WalkSpells
import Derived.WalkLawsBesides
import Derived.ProofKit
import Derived.Deep.AppendLies
import Derived.Deep.Slices
import Derived.Laws.Tables
namespace Go.Proofs.YtgbdlgogccgciaaGreatDoor
open Go.RowKit

/- WHAT IS THE SAME FOR EVERY LAW: worlds, rows of the call's own, one cell appended. -/
structure Same (lo : Nat) (w w' : World) : Prop where
  size : w.heap.size ≤ w'.heap.size
  block : ∀ k, lo ≤ k → k < w.heap.size → w'.heap[k]? = w.heap[k]?

theorem Same.of_below {lo : Nat} {w w' : World} (h : Below w.heap.size w w') : Same lo w w' := ⟨h.size, fun k _ hk => h.block k hk⟩

theorem Same.trans {lo : Nat} {a b c : World} (h : Same lo a b) (k : Same lo b c) : Same lo a c :=
  ⟨Nat.le_trans h.size k.size, fun i hi hl => (k.block i hi (Nat.lt_of_lt_of_le hl h.size)).trans (h.block i hi hl)⟩

theorem Same.setCell {lo : Nat} (w : World) {a : Addr} (h : a.block < lo) (u : Value) : Same lo w (w.setCell a u) := ⟨by simp [World.setCell], fun _ hk _ => Below.heap_setCell _ _ _ _ (by omega)⟩

theorem Same.cell {lo : Nat} {w w' : World} (h : Same lo w w') {p : Addr} (h1 : lo ≤ p.block) (h2 : p.block < w.heap.size) : w'.cell? p = w.cell? p := World.cell?_of_block (w := w) (h.block p.block h1 h2)

/-- 'Below' from the heap's size on, one step behind another. -/
theorem below_step {B : Nat} {w w1 w2 : World} (h : Below B w w1) (hB : B ≤ w1.heap.size) (k : Below w1.heap.size w1 w2) : Below B w w2 := h.trans (k.mono hB)

theorem ret_int {k : IntKind} {a b : Int} (h : a = b) : Ending.returned (.int k a) = .returned (.int k b) := by rw [h]

theorem ownsRow_below {w w' : World} {base : Nat} {e : TypeId} {size : Nat} {v : Value} {n : Nat} {xs : List Value} (h : w.ownsRow base e size v n xs) (hb : Below w.heap.size w w') : w'.ownsRow base e size v n xs := by
  refine ⟨h.1, ?_⟩
  rcases h.2 with h2 | ⟨g, cap, cur, hv, hg, hh, r⟩
  · exact .inl h2
  · exact .inr ⟨g, cap, cur, hv, hg, by rw [hb.block g (Array.getElem?_eq_some_iff.1 hh).1]; exact hh, r⟩

/-- The first k elements (sz cells each) of a row are f's. -/
def Filled (xs : List Value) (sz k : Nat) (f : Nat → List Value) : Prop := ∀ j, j < k → ∀ c, c < sz → xs[j * sz + c]? = (f j)[c]?

theorem own_cell {w : World} {base : Nat} {e : TypeId} {sz n cap g : Nat} {xs : List Value} (h : w.ownsRow base e sz (.slice (some ⟨g, 0, none⟩) n cap) n xs) {j : Nat} (hj : j < n * sz) :
    ∃ u, w.cell? ⟨g, j, none⟩ = some u := by
  rw [h.cellAt j hj]
  exact ⟨_, List.getElem?_eq_getElem (by rw [h.1]; exact hj)⟩

theorem own_two {w : World} {base : Nat} {e : TypeId} {n cap g : Nat} {xs : List Value} (h : w.ownsRow base e 2 (.slice (some ⟨g, 0, none⟩) n cap) n xs) {k : Nat} (hk : k < n) :
    ∃ u0 u1, w.cell? ⟨g, k * 2, none⟩ = some u0 ∧ w.cell? ⟨g, k * 2 + 1, none⟩ = some u1 ∧ w.frozen? ⟨g, k * 2, none⟩ = false ∧ w.frozen? ⟨g, k * 2 + 1, none⟩ = false := by
  obtain ⟨u0, h0⟩ := own_cell h (j := k * 2) (by omega)
  obtain ⟨u1, h1⟩ := own_cell h (j := k * 2 + 1) (by omega)
  exact ⟨u0, u1, h0, h1, h.frozenAt _, h.frozenAt _⟩

theorem filled_two {xs : List Value} {k : Nat} {f : Nat → List Value} {a b : Value} (h : Filled xs 2 k f) (hl : k * 2 + 1 < xs.length) (hk : f k = [a, b]) : Filled ((xs.set (k * 2) a).set (k * 2 + 1) b) 2 (k + 1) f := by
  intro j hj c hc
  rw [List.getElem?_set, List.getElem?_set]
  by_cases e : j = k
  · subst e
    rw [hk]
    match c, hc with
    | 0, _ => simp; omega
    | 1, _ => simp; omega
  · rw [if_neg (by omega), if_neg (by omega)]
    exact h j (by omega) c hc

theorem filled_five {xs : List Value} {k : Nat} {f : Nat → List Value} {a0 a1 a2 a3 a4 : Value} (h : Filled xs 5 k f) (hl : k * 5 + 4 < xs.length) (hk : f k = [a0, a1, a2, a3, a4]) :
    Filled (((((xs.set (k * 5) a0).set (k * 5 + 1) a1).set (k * 5 + 2) a2).set (k * 5 + 3) a3).set (k * 5 + 4) a4) 5 (k + 1) f := by
  intro j hj c hc
  rw [List.getElem?_set, List.getElem?_set, List.getElem?_set, List.getElem?_set, List.getElem?_set]
  by_cases e : j = k
  · subst e
    rw [hk]
    match c, hc with
    | 0, _ => simp; omega
    | 1, _ => simp; omega
    | 2, _ => simp; omega
    | 3, _ => simp; omega
    | 4, _ => simp; omega
  · rw [if_neg (by omega), if_neg (by omega), if_neg (by omega), if_neg (by omega), if_neg (by omega)]
    exact h j (by omega) c hc

theorem filled_three {xs : List Value} {k : Nat} {f : Nat → List Value} {a0 a1 a2 : Value} (h : Filled xs 3 k f) (hl : k * 3 + 2 < xs.length) (hk : f k = [a0, a1, a2]) :
    Filled (((xs.set (k * 3) a0).set (k * 3 + 1) a1).set (k * 3 + 2) a2) 3 (k + 1) f := by
  intro j hj c hc
  rw [List.getElem?_set, List.getElem?_set, List.getElem?_set]
  by_cases e : j = k
  · subst e
    rw [hk]
    match c, hc with
    | 0, _ => simp; omega
    | 1, _ => simp; omega
    | 2, _ => simp; omega
  · rw [if_neg (by omega), if_neg (by omega), if_neg (by omega)]
    exact h j (by omega) c hc

theorem own_three {w : World} {base : Nat} {e : TypeId} {n cap g : Nat} {xs : List Value} (h : w.ownsRow base e 3 (.slice (some ⟨g, 0, none⟩) n cap) n xs) {k : Nat} (hk : k < n) :
    ∃ u0 u1 u2, w.cell? ⟨g, k * 3, none⟩ = some u0 ∧ w.cell? ⟨g, k * 3 + 1, none⟩ = some u1 ∧ w.cell? ⟨g, k * 3 + 2, none⟩ = some u2 ∧ w.frozen? ⟨g, k * 3, none⟩ = false ∧ w.frozen? ⟨g, k * 3 + 1, none⟩ = false ∧ w.frozen? ⟨g, k * 3 + 2, none⟩ = false := by
  obtain ⟨u0, h0⟩ := own_cell h (j := k * 3) (by omega)
  obtain ⟨u1, h1⟩ := own_cell h (j := k * 3 + 1) (by omega)
  obtain ⟨u2, h2⟩ := own_cell h (j := k * 3 + 2) (by omega)
  exact ⟨u0, u1, u2, h0, h1, h2, h.frozenAt _, h.frozenAt _, h.frozenAt _⟩

theorem own_five {w : World} {base : Nat} {e : TypeId} {n cap g : Nat} {xs : List Value} (h : w.ownsRow base e 5 (.slice (some ⟨g, 0, none⟩) n cap) n xs) {k : Nat} (hk : k < n) :
    ∃ u0 u1 u2 u3 u4, w.cell? ⟨g, k * 5, none⟩ = some u0 ∧ w.cell? ⟨g, k * 5 + 1, none⟩ = some u1 ∧ w.cell? ⟨g, k * 5 + 2, none⟩ = some u2 ∧ w.cell? ⟨g, k * 5 + 3, none⟩ = some u3 ∧ w.cell? ⟨g, k * 5 + 4, none⟩ = some u4 ∧
      w.frozen? ⟨g, k * 5, none⟩ = false ∧ w.frozen? ⟨g, k * 5 + 1, none⟩ = false ∧ w.frozen? ⟨g, k * 5 + 2, none⟩ = false ∧ w.frozen? ⟨g, k * 5 + 3, none⟩ = false ∧ w.frozen? ⟨g, k * 5 + 4, none⟩ = false := by
  obtain ⟨u0, h0⟩ := own_cell h (j := k * 5) (by omega)
  obtain ⟨u1, h1⟩ := own_cell h (j := k * 5 + 1) (by omega)
  obtain ⟨u2, h2⟩ := own_cell h (j := k * 5 + 2) (by omega)
  obtain ⟨u3, h3⟩ := own_cell h (j := k * 5 + 3) (by omega)
  obtain ⟨u4, h4⟩ := own_cell h (j := k * 5 + 4) (by omega)
  exact ⟨u0, u1, u2, u3, u4, h0, h1, h2, h3, h4, h.frozenAt _, h.frozenAt _, h.frozenAt _, h.frozenAt _, h.frozenAt _⟩

theorem filled_cell {w : World} {base : Nat} {e : TypeId} {sz n cap g : Nat} {xs : List Value} {f : Nat → List Value} (h : w.ownsRow base e sz (.slice (some ⟨g, 0, none⟩) n cap) n xs) (hf : Filled xs sz n f) {i c : Nat} (hi : i < n) (hc : c < sz) :
    w.cell? ⟨g, i * sz + c, none⟩ = (f i)[c]? := by
  have : i * sz + c < n * sz := Nat.lt_of_lt_of_le (by omega : i * sz + c < i * sz + sz) (by rw [← Nat.succ_mul]; exact Nat.mul_le_mul_right _ hi)
  rw [h.cellAt _ this]
  exact hf i hi c hc

theorem own_lt {w : World} {base : Nat} {e : TypeId} {sz n cap g : Nat} {xs : List Value} (h : w.ownsRow base e sz (.slice (some ⟨g, 0, none⟩) n cap) n xs) : g < w.heap.size := (h.lt g rfl).2

theorem bcell {W w1 : World} (hb : Below W.heap.size W w1) : (∀ b o, b < W.heap.size → w1.cell? ⟨b, o, none⟩ = W.cell? ⟨b, o, none⟩) ∧ (∀ b o, b < W.heap.size → w1.frozen? ⟨b, o, none⟩ = W.frozen? ⟨b, o, none⟩) :=
  ⟨fun b o h => hb.cell (p := ⟨b, o, none⟩) h, fun b o h => hb.frozen (p := ⟨b, o, none⟩) h⟩

theorem Filled.congr {xs : List Value} {sz k : Nat} {f g : Nat → List Value} (h : Filled xs sz k f) (hfg : ∀ j, j < k → f j = g j) : Filled xs sz k g := fun j hj c hc => by rw [← hfg j hj]; exact h j hj c hc

/-- One more in a family. -/
def upd (S : Nat → Value) (k : Nat) (v : Value) : Nat → Value := fun j => if j = k then v else S j

theorem upd_same (S : Nat → Value) (k : Nat) (v : Value) : upd S k v k = v := by simp [upd]

theorem upd_lt (S : Nat → Value) (v : Value) {j k : Nat} (h : j < k) : upd S k v j = S j := by simp [upd]; omega

theorem ret_bool {a b : Bool} (h : a = b) : Ending.returned (.bool a) = .returned (.bool b) := by rw [h]

theorem row_alloc {w : World} {g : Nat} {o ob : Obj} (h : w.heap[g]? = some o) : (w.alloc ob).heap[g]? = some o := by
  rw [Below.heap_alloc _ _ _ (Array.getElem?_eq_some_iff.1 h).1]; exact h

theorem Below.setRow {B : Nat} {a w : World} (h : Below B a w) {g : Nat} (hg : B ≤ g) (cs : Array Value) : Below B a (w.setRow g cs) :=
  h.trans ⟨rfl, rfl, rfl, by simp, fun k hk => setRow_other _ _ _ _ (by omega)⟩

/-- A row cut at its end. -/
theorem ownsRow_take {w : World} {base : Nat} {e : TypeId} {g cap n m : Nat} {xs : List Value} (h : w.ownsRow base e 1 (.slice (some ⟨g, 0, none⟩) n cap) n xs) (hm : m ≤ n) :
    w.ownsRow base e 1 (.slice (some ⟨g, 0, none⟩) m cap) m (xs.take m) := by
  obtain ⟨h1, h2⟩ := h
  rcases h2 with ⟨h0, _⟩ | ⟨g', cap', cur, hv, hg, hh, hn, hcap, hsz, htake⟩
  · cases h0
  · cases hv
    refine ⟨by simp at h1 ⊢; omega, .inr ⟨g, cap, cur, rfl, hg, hh, by omega, hcap, hsz, ?_⟩⟩
    rw [← htake, List.take_take]
    congr 1
    omega

/-- A row that has just been laid, empty. -/
theorem ownsRow_new (w : World) (e : TypeId) : (w.alloc (.cells #[] e)).ownsRow w.heap.size e 1 (.slice (some ⟨w.heap.size, 0, none⟩) 0 0) 0 [] :=
  ⟨rfl, .inr ⟨w.heap.size, 0, #[], rfl, Nat.le_refl _, heap_alloc_new _ _, Nat.le_refl _, Nat.zero_le _, rfl, rfl⟩⟩

theorem own_form {w : World} {base : Nat} {e : TypeId} {g cap n : Nat} {xs : List Value} (h : w.ownsRow base e 1 (.slice (some ⟨g, 0, none⟩) n cap) n xs) : base ≤ g ∧ g < w.heap.size ∧ n ≤ cap ∧ cap ≤ maxLen := by
  obtain ⟨h1, h2⟩ := h
  rcases h2 with ⟨h0, _⟩ | ⟨g', cap', cur, hv, hg, hh, hn, hcap, hsz, htake⟩
  · cases h0
  · cases hv
    exact ⟨hg, (Array.getElem?_eq_some_iff.1 hh).1, hn, hcap⟩

/-- 'append(s, x)', one cell, onto a row of the call's own: where the new row lies. -/
theorem wpList_append_one {P : Program} {ops : Array Oper} {rest : List Oper} {o : Oper} {a : Act} {Q : Exit → Act → World → Prop} (w : World) (hgd : o.guard = none) (s x : Operand) (t : TypeId)
    (ho : o.op = .call { callee := .builtin .append, args := #[s, x], argTypes := #[t, t] })
    (base : Nat) (e : TypeId) (i : TypeInfo) (z : Value) (bytes : Nat) (ht : P.underlying t = some (.slice e)) (hi : P.info? e = some i) (hz : i.zero = some z)
    (hsize : i.size = 1) (hby : i.bytes = bytes) (hzs : z.cells.size = 1)
    (g cap n : Nat) (xs : List Value) (u : Value) (hs : a.eval s = .slice (some ⟨g, 0, none⟩) n cap) (hown : w.ownsRow base e 1 (.slice (some ⟨g, 0, none⟩) n cap) n xs)
    (hx : a.eval x = .slice (some ⟨w.heap.size, 0, none⟩) 1 1) (h1 : u.oneCell' = true) (hn : n ≤ 2000000) (hbytes : bytes ≤ 64) (hbase : base ≤ w.heap.size)
    (h : ∀ g' cap' w', w'.ownsRow base e 1 (.slice (some ⟨g', 0, none⟩) (n + 1) cap') (n + 1) (xs ++ [u]) → w.grownBy w' (some g) → (g' = g ∨ g' = w.heap.size + 1) → wpList P ops Q rest (a.put o.dst (.slice (some ⟨g', 0, none⟩) (n + 1) cap')) w') :
    wpList P ops Q (o :: rest) a (w.alloc (.cells #[u] e)) := by
  refine wpList_append_lies _ hgd s x t ho base e i z 1 bytes ht hi hz hsize hby hzs (by omega) _ n xs hs (hown.alloc _) ⟨w.heap.size, 0, none⟩ 1 1 [u] hx rfl ?_ ?_ (by omega) (by unfold maxLen; omega) ?_ (by simp; omega) (w.heap.size + 1) (by simp) ?_
  · intro j v hv
    match j, hv with
    | 0, hv => simp at hv; subst hv; simp [Addr.add]
  · intro v hv; simp at hv; subst hv; exact h1
  · have : (n + 1) * bytes ≤ 2000001 * 64 := Nat.mul_le_mul (by omega) hbytes
    omega
  · intro g' cap' w' ho2 hgr hat hlt
    refine h g' cap' w' ho2 ⟨hgr.os, hgr.tape, hgr.output, Nat.le_trans (by simp) hgr.size, fun k hk hne => ?_⟩ ?_
    · rw [hgr.block k (by simp; omega) (by simpa [Value.ownBlock] using hne), Below.heap_alloc _ _ _ hk]
    · rcases hat with hat | hat
      · left; simp [Value.ownBlock] at hat; exact hat.symm
      · exact .inr hat

theorem ownsRow_new_at (w : World) (e : TypeId) (B H : Nat) (hB : B ≤ H) (hH : w.heap.size = H) : (w.alloc (.cells #[] e)).ownsRow B e 1 (.slice (some ⟨H, 0, none⟩) 0 0) 0 [] := by
  subst hH
  exact ⟨rfl, .inr ⟨w.heap.size, 0, #[], rfl, hB, heap_alloc_new _ _, Nat.le_refl _, Nat.zero_le _, rfl, rfl⟩⟩

theorem wpList_append_oneH {P : Program} {ops : Array Oper} {rest : List Oper} {o : Oper} {a : Act} {Q : Exit → Act → World → Prop} (w : World) (H : Nat) (hH : w.heap.size = H) (hgd : o.guard = none) (s x : Operand) (t : TypeId)
    (ho : o.op = .call { callee := .builtin .append, args := #[s, x], argTypes := #[t, t] })
    (base : Nat) (e : TypeId) (i : TypeInfo) (z : Value) (bytes : Nat) (ht : P.underlying t = some (.slice e)) (hi : P.info? e = some i) (hz : i.zero = some z)
    (hsize : i.size = 1) (hby : i.bytes = bytes) (hzs : z.cells.size = 1)
    (g cap n : Nat) (xs : List Value) (u : Value) (hs : a.eval s = .slice (some ⟨g, 0, none⟩) n cap) (hown : w.ownsRow base e 1 (.slice (some ⟨g, 0, none⟩) n cap) n xs)
    (hx : a.eval x = .slice (some ⟨H, 0, none⟩) 1 1) (h1 : u.oneCell' = true) (hn : n ≤ 2000000) (hbytes : bytes ≤ 64) (hbase : base ≤ w.heap.size)
    (h : ∀ g' cap' w', w'.ownsRow base e 1 (.slice (some ⟨g', 0, none⟩) (n + 1) cap') (n + 1) (xs ++ [u]) → w.grownBy w' (some g) → (g' = g ∨ g' = w.heap.size + 1) → wpList P ops Q rest (a.put o.dst (.slice (some ⟨g', 0, none⟩) (n + 1) cap')) w') :
    wpList P ops Q (o :: rest) a (w.alloc (.cells #[u] e)) := by
  subst hH
  exact wpList_append_one w hgd s x t ho base e i z bytes ht hi hz hsize hby hzs g cap n xs u hs hown hx h1 hn hbytes hbase h

theorem list3 {α : Type} {l : List α} (h : l.length = 3) : ∃ a b c, l = [a, b, c] := by
  match l, h with
  | [a, b, c], _ => exact ⟨a, b, c, rfl⟩

theorem list5 {α : Type} {l : List α} (h : l.length = 5) : ∃ a b c d e, l = [a, b, c, d, e] := by
  match l, h with
  | [a, b, c, d, e], _ => exact ⟨a, b, c, d, e, rfl⟩

theorem spot_none {W : World} {a : Addr} {v : Value} (h : W.cell? a = some v) : a = ⟨a.block, a.off, none⟩ := by
  obtain ⟨b, o, s⟩ := a
  cases s with
  | none => rfl
  | some q =>
    simp only [World.cell?] at h
    split at h <;> simp at h

/-- The rows of a slice's array, cell by cell. -/
theorem open_rows {W : World} {a : Addr} {len sz : Nat} {E : List Value → Prop} (hsz : 0 < sz) (h : ∀ i, i < len → ∃ cs, W.cells? 0 (a.add (i * sz)) sz = some cs ∧ E cs) (h0 : 0 < len) :
    ∃ (b o : Nat) (C : Nat → List Value), a = ⟨b, o, none⟩ ∧ b < W.heap.size ∧ ∀ i, i < len → E (C i) ∧ ∀ j, j < sz → W.cell? ⟨b, o + i * sz + j, none⟩ = (C i)[j]? := by
  obtain ⟨cs0, h1, _⟩ := h 0 h0
  obtain ⟨_, hl, hc⟩ := World.cells?_some h1
  have hz := hc 0 hsz
  rw [Nat.zero_mul, List.getElem?_eq_getElem (by omega)] at hz
  have ha : a.add 0 = a := by simp [Addr.add]
  rw [ha, ha] at hz
  have hs := spot_none hz
  obtain ⟨C, hC⟩ := Go.Deep.choose_lt (α := List Value) (p := fun i cs => W.cells? 0 (a.add (i * sz)) sz = some cs ∧ E cs) h
  refine ⟨a.block, a.off, C, hs, block_lt_of_cell hz, fun i hi => ⟨(hC i hi).2, fun j hj => ?_⟩⟩
  obtain ⟨_, _, hc2⟩ := World.cells?_some (hC i hi).1
  rw [← hc2 j hj, Go.Deep.add_add]
  congr 1
  rw [hs]
  unfold Addr.add
  split
  · rename_i h
    simp only [Addr.mk.injEq, true_and, and_true]
    omega
  · simp

theorem range_map_get {α : Type} (f : Nat → α) (d : α) (n i : Nat) (h : i < n) : ((List.range n).map f).getD i d = f i := by
  simp [List.getD, h]

theorem maxLen_num {n : Nat} (h : n ≤ maxLen) : n ≤ 9223372036854775807 := by simpa [maxLen] using h

theorem Tryz.infoInt : (Tryz.prog.info? 3).map (fun i => (i.zero, i.size, i.bytes)) = some (some (.int .i64 0), 1, 8) := by kernel_rfl
end Go.Proofs.YtgbdlgogccgciaaGreatDoor
namespace Go.Proofs.YtgbdlgogccgciaaGreatDoor
open Go.RowKit

/- THE DATA: a rule as lists and numbers; and what it is for a value to hold them in a world. -/
structure NodeD where
  kind : Int
  set : List (Int × Int)
  min : Int
  max : Int
  group : Int
structure BranchD where
  bol : Bool
  eol : Bool
  nodes : List NodeD
structure RuleD where
  branches : List BranchD
  groups : Int
def NodeD.zero : NodeD := ⟨0, [], 0, 0, 0⟩
def BranchD.zero : BranchD := ⟨false, false, []⟩

/- The blocks from lo on that were there are as they were. -/
/- The cells of a slice of ranges (two cells each), of nodes (five), of branches (three), and the slices themselves: in blocks from lo on. -/
def RangeCells (lo : Nat) (w : World) (ao : Option Addr) (rs : List (Int × Int)) : Prop :=
  0 < rs.length → ∃ b o, ao = some ⟨b, o, none⟩ ∧ lo ≤ b ∧ b < w.heap.size ∧
    ∀ i, i < rs.length → w.cell? ⟨b, o + i * 2, none⟩ = some (.int .i64 (rs.getD i (0, 0)).1) ∧ w.cell? ⟨b, o + i * 2 + 1, none⟩ = some (.int .i64 (rs.getD i (0, 0)).2)
def RangesAt (lo : Nat) (w : World) (v : Value) (rs : List (Int × Int)) : Prop := ∃ ao cap, v = .slice ao rs.length cap ∧ rs.length ≤ 9223372036854775807 ∧ RangeCells lo w ao rs

def NodeCells (lo : Nat) (w : World) (ao : Option Addr) (ns : List NodeD) : Prop :=
  0 < ns.length → ∃ b o, ao = some ⟨b, o, none⟩ ∧ lo ≤ b ∧ b < w.heap.size ∧
    ∀ i, i < ns.length → w.cell? ⟨b, o + i * 5, none⟩ = some (.int .i64 (ns.getD i .zero).kind) ∧
      (∃ sv, w.cell? ⟨b, o + i * 5 + 1, none⟩ = some sv ∧ RangesAt lo w sv (ns.getD i .zero).set) ∧
      w.cell? ⟨b, o + i * 5 + 2, none⟩ = some (.int .i64 (ns.getD i .zero).min) ∧ w.cell? ⟨b, o + i * 5 + 3, none⟩ = some (.int .i64 (ns.getD i .zero).max) ∧
      w.cell? ⟨b, o + i * 5 + 4, none⟩ = some (.int .i64 (ns.getD i .zero).group)
def NodesAt (lo : Nat) (w : World) (v : Value) (ns : List NodeD) : Prop := ∃ ao cap, v = .slice ao ns.length cap ∧ ns.length ≤ 9223372036854775807 ∧ NodeCells lo w ao ns

def BranchCells (lo : Nat) (w : World) (ao : Option Addr) (bs : List BranchD) : Prop :=
  0 < bs.length → ∃ b o, ao = some ⟨b, o, none⟩ ∧ lo ≤ b ∧ b < w.heap.size ∧
    ∀ i, i < bs.length → w.cell? ⟨b, o + i * 3, none⟩ = some (.bool (bs.getD i .zero).bol) ∧ w.cell? ⟨b, o + i * 3 + 1, none⟩ = some (.bool (bs.getD i .zero).eol) ∧
      (∃ nv, w.cell? ⟨b, o + i * 3 + 2, none⟩ = some nv ∧ NodesAt lo w nv (bs.getD i .zero).nodes)
def BranchesAt (lo : Nat) (w : World) (v : Value) (bs : List BranchD) : Prop := ∃ ao cap, v = .slice ao bs.length cap ∧ bs.length ≤ 9223372036854775807 ∧ BranchCells lo w ao bs

theorem RangesAt.same {lo : Nat} {w w' : World} {v : Value} {rs : List (Int × Int)} (h : RangesAt lo w v rs) (hb : Same lo w w') : RangesAt lo w' v rs := by
  obtain ⟨ao, cap, rfl, hm, h⟩ := h
  refine ⟨ao, cap, rfl, hm, fun h0 => ?_⟩
  obtain ⟨b, o, rfl, hge, hlt, hc⟩ := h h0
  refine ⟨b, o, rfl, hge, Nat.lt_of_lt_of_le hlt hb.size, fun i hi => ?_⟩
  obtain ⟨c0, c1⟩ := hc i hi
  exact ⟨(hb.cell (by exact hge) (by exact hlt)).trans c0, (hb.cell (by exact hge) (by exact hlt)).trans c1⟩
theorem NodesAt.same {lo : Nat} {w w' : World} {v : Value} {ns : List NodeD} (h : NodesAt lo w v ns) (hb : Same lo w w') : NodesAt lo w' v ns := by
  obtain ⟨ao, cap, rfl, hm, h⟩ := h
  refine ⟨ao, cap, rfl, hm, fun h0 => ?_⟩
  obtain ⟨b, o, rfl, hge, hlt, hc⟩ := h h0
  refine ⟨b, o, rfl, hge, Nat.lt_of_lt_of_le hlt hb.size, fun i hi => ?_⟩
  obtain ⟨c0, ⟨sv, c1, hs⟩, c2, c3, c4⟩ := hc i hi
  have hcell : ∀ off, w'.cell? ⟨b, off, none⟩ = w.cell? ⟨b, off, none⟩ := fun off => hb.cell (by exact hge) (by exact hlt)
  exact ⟨(hcell _).trans c0, ⟨sv, (hcell _).trans c1, hs.same hb⟩, (hcell _).trans c2, (hcell _).trans c3, (hcell _).trans c4⟩
theorem BranchesAt.same {lo : Nat} {w w' : World} {v : Value} {bs : List BranchD} (h : BranchesAt lo w v bs) (hb : Same lo w w') : BranchesAt lo w' v bs := by
  obtain ⟨ao, cap, rfl, hm, h⟩ := h
  refine ⟨ao, cap, rfl, hm, fun h0 => ?_⟩
  obtain ⟨b, o, rfl, hge, hlt, hc⟩ := h h0
  refine ⟨b, o, rfl, hge, Nat.lt_of_lt_of_le hlt hb.size, fun i hi => ?_⟩
  obtain ⟨c0, c1, ⟨nv, c2, hn⟩⟩ := hc i hi
  have hcell : ∀ off, w'.cell? ⟨b, off, none⟩ = w.cell? ⟨b, off, none⟩ := fun off => hb.cell (by exact hge) (by exact hlt)
  exact ⟨(hcell _).trans c0, (hcell _).trans c1, ⟨nv, (hcell _).trans c2, hn.same hb⟩⟩
theorem RangesAt.below {lo : Nat} {w w' : World} {v : Value} {rs : List (Int × Int)} (h : RangesAt lo w v rs) (hb : Below w.heap.size w w') : RangesAt lo w' v rs := h.same (.of_below hb)
theorem NodesAt.below {lo : Nat} {w w' : World} {v : Value} {ns : List NodeD} (h : NodesAt lo w v ns) (hb : Below w.heap.size w w') : NodesAt lo w' v ns := h.same (.of_below hb)
theorem BranchesAt.below {lo : Nat} {w w' : World} {v : Value} {bs : List BranchD} (h : BranchesAt lo w v bs) (hb : Below w.heap.size w w') : BranchesAt lo w' v bs := h.same (.of_below hb)

theorem RangesAt.mono {lo lo' : Nat} {w : World} {v : Value} {rs : List (Int × Int)} (h : RangesAt lo w v rs) (hl : lo' ≤ lo) : RangesAt lo' w v rs := by
  obtain ⟨ao, cap, rfl, hm, h⟩ := h
  refine ⟨ao, cap, rfl, hm, fun h0 => ?_⟩
  obtain ⟨b, o, rfl, hge, r⟩ := h h0
  exact ⟨b, o, rfl, Nat.le_trans hl hge, r⟩
theorem NodesAt.mono {lo lo' : Nat} {w : World} {v : Value} {rs : List NodeD} (h : NodesAt lo w v rs) (hl : lo' ≤ lo) : NodesAt lo' w v rs := by
  obtain ⟨ao, cap, rfl, hm, h⟩ := h
  refine ⟨ao, cap, rfl, hm, fun h0 => ?_⟩
  obtain ⟨b, o, rfl, hge, hlt, hc⟩ := h h0
  refine ⟨b, o, rfl, Nat.le_trans hl hge, hlt, fun i hi => ?_⟩
  obtain ⟨c0, ⟨sv, c1, hs⟩, r⟩ := hc i hi
  exact ⟨c0, ⟨sv, c1, hs.mono hl⟩, r⟩

/- One element, in a later world. -/
theorem RangeCells.elem {lo : Nat} {w wr : World} {ao : Option Addr} {rs : List (Int × Int)} (h : RangeCells lo w ao rs) (hb : Below w.heap.size w wr) {k : Nat} (hk : k < rs.length) :
    ∃ (b o : Nat) (lo hi : Int), ao = some ⟨b, o, none⟩ ∧ Hid (rs.getD k (0, 0) = (lo, hi)) ∧ b < w.heap.size ∧ wr.cell? ⟨b, o + k * 2, none⟩ = some (.int .i64 lo) ∧ wr.cell? ⟨b, o + k * 2 + 1, none⟩ = some (.int .i64 hi) := by
  obtain ⟨b, o, rfl, _, hlt, hc⟩ := h (by omega)
  obtain ⟨c0, c1⟩ := hc k hk
  exact ⟨b, o, _, _, rfl, rfl, hlt, (hb.cell (by exact hlt)).trans c0, (hb.cell (by exact hlt)).trans c1⟩
theorem NodeCells.elem {lo : Nat} {w wr : World} {ao : Option Addr} {ns : List NodeD} (h : NodeCells lo w ao ns) (hb : Below w.heap.size w wr) {k : Nat} (hk : k < ns.length) :
    ∃ (b o : Nat) (sv : Value) (nd : NodeD), ao = some ⟨b, o, none⟩ ∧ Hid (ns.getD k .zero = nd) ∧ b < w.heap.size ∧ wr.cell? ⟨b, o + k * 5, none⟩ = some (.int .i64 nd.kind) ∧ wr.cell? ⟨b, o + k * 5 + 1, none⟩ = some sv ∧
      wr.cell? ⟨b, o + k * 5 + 2, none⟩ = some (.int .i64 nd.min) ∧ wr.cell? ⟨b, o + k * 5 + 3, none⟩ = some (.int .i64 nd.max) ∧ wr.cell? ⟨b, o + k * 5 + 4, none⟩ = some (.int .i64 nd.group) ∧ RangesAt lo wr sv nd.set := by
  obtain ⟨b, o, rfl, _, hlt, hc⟩ := h (by omega)
  obtain ⟨c0, ⟨sv, c1, hs⟩, c2, c3, c4⟩ := hc k hk
  exact ⟨b, o, sv, _, rfl, rfl, hlt, (hb.cell (by exact hlt)).trans c0, (hb.cell (by exact hlt)).trans c1, (hb.cell (by exact hlt)).trans c2, (hb.cell (by exact hlt)).trans c3, (hb.cell (by exact hlt)).trans c4, hs.below hb⟩
theorem BranchCells.elem {lo : Nat} {w wr : World} {ao : Option Addr} {bs : List BranchD} (h : BranchCells lo w ao bs) (hb : Below w.heap.size w wr) {k : Nat} (hk : k < bs.length) :
    ∃ (b o : Nat) (nv : Value) (bd : BranchD), ao = some ⟨b, o, none⟩ ∧ Hid (bs.getD k .zero = bd) ∧ b < w.heap.size ∧ wr.cell? ⟨b, o + k * 3, none⟩ = some (.bool bd.bol) ∧ wr.cell? ⟨b, o + k * 3 + 1, none⟩ = some (.bool bd.eol) ∧
      wr.cell? ⟨b, o + k * 3 + 2, none⟩ = some nv ∧ NodesAt lo wr nv bd.nodes := by
  obtain ⟨b, o, rfl, _, hlt, hc⟩ := h (by omega)
  obtain ⟨c0, c1, ⟨nv, c2, hn⟩⟩ := hc k hk
  exact ⟨b, o, nv, _, rfl, rfl, hlt, (hb.cell (by exact hlt)).trans c0, (hb.cell (by exact hlt)).trans c1, (hb.cell (by exact hlt)).trans c2, hn.below hb⟩

/- THE SIZES, as the laws count them. -/
def szRangesF (rs : List (Int × Int)) (left : Int) : Int := if left - rs.length < 0 then -1 else left - rs.length
def szNodesL : List NodeD → Int → Int
  | [], l => l
  | n :: ns, l => if szRangesF n.set l < 0 then -1 else szNodesL ns (szRangesF n.set l)
def szNodesF (ns : List NodeD) (left : Int) : Int := if left - ns.length < 0 then -1 else szNodesL ns (left - ns.length)
def szBranchesL : List BranchD → Int → Int
  | [], l => l
  | b :: bs, l => if szNodesF b.nodes l < 0 then -1 else szBranchesL bs (szNodesF b.nodes l)
def szBranchesF (bs : List BranchD) (left : Int) : Int := if left - bs.length < 0 then -1 else szBranchesL bs (left - bs.length)

theorem szRangesF_le (rs : List (Int × Int)) (l : Int) (h : 0 ≤ l) : -1 ≤ szRangesF rs l ∧ szRangesF rs l ≤ l := by unfold szRangesF; split <;> omega
theorem szNodesL_le (ns : List NodeD) : ∀ l : Int, 0 ≤ l → -1 ≤ szNodesL ns l ∧ szNodesL ns l ≤ l := by
  induction ns with
  | nil => intro l h; simp [szNodesL]; omega
  | cons n ns ih =>
    intro l h
    have := szRangesF_le n.set l h
    unfold szNodesL
    split
    · omega
    · have := ih (szRangesF n.set l) (by omega); omega
theorem szNodesF_le (ns : List NodeD) (l : Int) (h : 0 ≤ l) : -1 ≤ szNodesF ns l ∧ szNodesF ns l ≤ l := by
  unfold szNodesF; split
  · omega
  · have := szNodesL_le ns (l - ns.length) (by omega); omega

theorem szBranchesL_le (ns : List BranchD) : ∀ l : Int, 0 ≤ l → -1 ≤ szBranchesL ns l ∧ szBranchesL ns l ≤ l := by
  induction ns with
  | nil => intro l h; simp [szBranchesL]; omega
  | cons n ns ih =>
    intro l h
    have := szNodesF_le n.nodes l h
    unfold szBranchesL
    split
    · omega
    · have := ih (szNodesF n.nodes l) (by omega); omega
theorem szBranchesF_le (ns : List BranchD) (l : Int) (h : 0 ≤ l) : -1 ≤ szBranchesF ns l ∧ szBranchesF ns l ≤ l := by
  unfold szBranchesF; split
  · omega
  · have := szBranchesL_le ns (l - ns.length) (by omega); omega

theorem szNodesL_drop (ns : List NodeD) (i : Nat) (hi : i < ns.length) (l : Int) :
    szNodesL (ns.drop i) l = if szRangesF (ns.getD i .zero).set l < 0 then -1 else szNodesL (ns.drop (i + 1)) (szRangesF (ns.getD i .zero).set l) := by
  rw [List.drop_eq_getElem_cons hi]
  simp [szNodesL, List.getD, hi]
theorem szBranchesL_drop (ns : List BranchD) (i : Nat) (hi : i < ns.length) (l : Int) :
    szBranchesL (ns.drop i) l = if szNodesF (ns.getD i .zero).nodes l < 0 then -1 else szBranchesL (ns.drop (i + 1)) (szNodesF (ns.getD i .zero).nodes l) := by
  rw [List.drop_eq_getElem_cons hi]
  simp [szBranchesL, List.getD, hi]

end Go.Proofs.YtgbdlgogccgciaaGreatDoor
namespace Go.Proofs.YtgbdlgogccgciaaGreatDoor
open Go.RowKit

/- TOKENS AND THEIR GRAMMAR (plain mathematics). Kinds: 0 atom, 1 (, 2 ), 3 |, 4 postfix, 5 ^, 6 $; 7: nothing. -/
structure Tok where
  kind : Nat
  pos : Nat
  set : Nat → Bool
  mn : Int
  mx : Int
/-- The ranges of a set, byte by byte. -/
def rngStep (f : Nat → Bool) (l : List (Int × Int)) (c : Nat) : List (Int × Int) :=
  if f c then (if 0 < c ∧ f (c - 1) = true then l.dropLast ++ [((l.getLast?.getD (0, 0)).1, (c : Int))] else l ++ [((c : Int), (c : Int))]) else l
def rngF (f : Nat → Bool) : Nat → List (Int × Int)
  | 0 => []
  | c + 1 => rngStep f (rngF f c) c
def seqN : NodeD := ⟨2, [], 0, 0, 0⟩
def altN : NodeD := ⟨3, [], 0, 0, 0⟩
def setN (f : Nat → Bool) : NodeD := ⟨1, rngF f 256, 0, 0, 0⟩
def repN (mn mx : Int) : NodeD := ⟨4, [], mn, mx, 0⟩
def grpN (g : Nat) : NodeD := ⟨5, [], 0, 0, (g : Int)⟩
/-- Tokens g ahead: groups begun; the nodes; groups begun behind. Sorts: 0 a factor without its postfix, 1 a factor, 2 factors (their number, no Seq nodes yet), 3 alternatives (their number, no Alt nodes yet). -/
inductive Gr : Nat → Nat → List Tok → Nat → List NodeD → Nat → Prop
  | atom {g : Nat} {a : Tok} : a.kind = 0 → Gr 0 g [a] 0 [setN a.set] g
  | grp {g g' n : Nat} {o c : Tok} {l : List Tok} {ns : List NodeD} : o.kind = 1 → Gr 3 (g + 1) l (n + 1) ns g' → c.kind = 2 → Gr 0 g (o :: (l ++ [c])) 0 (ns ++ List.replicate n altN ++ [grpN (g + 1)]) g'
  | bare {g g' : Nat} {l : List Tok} {ns : List NodeD} : Gr 0 g l 0 ns g' → Gr 1 g l 0 ns g'
  | rep {g g' : Nat} {l : List Tok} {ns : List NodeD} {r : Tok} : Gr 0 g l 0 ns g' → r.kind = 4 → Gr 1 g (l ++ [r]) 0 (ns ++ [repN r.mn r.mx]) g'
  | one {g g' : Nat} {l : List Tok} {ns : List NodeD} : Gr 1 g l 0 ns g' → Gr 2 g l 1 ns g'
  | more {g g1 g2 n : Nat} {l m : List Tok} {ns ms : List NodeD} : Gr 1 g l 0 ns g1 → Gr 2 g1 m n ms g2 → Gr 2 g (l ++ m) (n + 1) (ns ++ ms) g2
  | alt {g g' n : Nat} {l : List Tok} {ns : List NodeD} : Gr 2 g l (n + 1) ns g' → Gr 3 g l 1 (ns ++ List.replicate n seqN) g'
  | alts {g g1 g2 n k : Nat} {l m : List Tok} {b : Tok} {ns ms : List NodeD} : Gr 2 g l (n + 1) ns g1 → b.kind = 3 → Gr 3 g1 m k ms g2 → Gr 3 g (l ++ b :: m) (k + 1) (ns ++ List.replicate n seqN ++ ms) g2
/-- A branch, and all of them. -/
inductive Br : Nat → List Tok → BranchD → Nat → Prop
  | none {g g' n : Nat} {l : List Tok} {ns : List NodeD} : Gr 2 g l (n + 1) ns g' → Br g l ⟨false, false, ns ++ List.replicate n seqN⟩ g'
  | bol {g g' n : Nat} {l : List Tok} {ns : List NodeD} {x : Tok} : x.kind = 5 → Gr 2 g l (n + 1) ns g' → Br g (x :: l) ⟨true, false, ns ++ List.replicate n seqN⟩ g'
  | eol {g g' n : Nat} {l : List Tok} {ns : List NodeD} {y : Tok} : y.kind = 6 → Gr 2 g l (n + 1) ns g' → Br g (l ++ [y]) ⟨false, true, ns ++ List.replicate n seqN⟩ g'
  | both {g g' n : Nat} {l : List Tok} {ns : List NodeD} {x y : Tok} : x.kind = 5 → y.kind = 6 → Gr 2 g l (n + 1) ns g' → Br g (x :: (l ++ [y])) ⟨true, true, ns ++ List.replicate n seqN⟩ g'
inductive Rl : Nat → List Tok → List BranchD → Nat → Prop
  | one {g g' : Nat} {l : List Tok} {b : BranchD} : Br g l b g' → Rl g l [b] g'
  | more {g g1 g2 : Nat} {l m : List Tok} {b : BranchD} {x : Tok} {bs : List BranchD} : Br g l b g1 → x.kind = 3 → Rl g1 m bs g2 → Rl g (l ++ x :: m) (b :: bs) g2

/-- What stands where an operand must begin. -/
def opens (prev : Nat) : Prop := prev = 7 ∨ prev = 1 ∨ prev = 3 ∨ prev = 5
def headK (l : List Tok) : Nat := match l with | [] => 7 | x :: _ => x.kind
/-- A token in its place: the kind ahead of it, the depth, the kind behind it. -/
def fits (prev d x next : Nat) : Prop :=
  (x = 0) ∨ (x = 1) ∨ (x = 2 ∧ d ≠ 0 ∧ ¬opens prev) ∨ (x = 3 ∧ ¬opens prev) ∨ (x = 4 ∧ (prev = 0 ∨ prev = 2)) ∨ (x = 5 ∧ d = 0 ∧ (prev = 7 ∨ prev = 3)) ∨ (x = 6 ∧ d = 0 ∧ (next = 7 ∨ next = 3) ∧ ¬opens prev)
def deep (d x : Nat) : Nat := if x = 1 then d + 1 else if x = 2 then d - 1 else d
def Good : Nat → Nat → List Tok → Prop
  | prev, d, [] => ¬opens prev ∧ d = 0
  | prev, d, x :: l => fits prev d x.kind (headK l) ∧ Good x.kind (deep d x.kind) l

/-- Behind a factor. -/
def ended (k : Nat) : Prop := k = 0 ∨ k = 2 ∨ k = 4
theorem ended_not {k : Nat} (h : ended k) : ¬opens k := by unfold ended at h; unfold opens; omega
theorem good_core (N : Nat) (hA : ∀ (g d : Nat) (l : List Tok), l.length < N → Good 1 (d + 1) l → ∃ body c rest n ns g', l = body ++ c :: rest ∧ c.kind = 2 ∧ Gr 3 g body (n + 1) ns g' ∧ Good 2 d rest)
    (g prev d : Nat) (x : Tok) (l : List Tok) (hN : (x :: l).length ≤ N) (h : Good prev d (x :: l)) (hx : x.kind = 0 ∨ x.kind = 1) :
    ∃ a rest ns g' k, x :: l = a ++ rest ∧ a ≠ [] ∧ Gr 0 g a 0 ns g' ∧ (k = 0 ∨ k = 2) ∧ Good k d rest := by
  rcases hx with hx | hx
  · refine ⟨[x], l, _, g, 0, rfl, by simp, .atom hx, .inl rfl, ?_⟩
    have := h.2
    rw [hx] at this
    simpa [deep] using this
  · have h2 := h.2
    rw [hx] at h2
    have h3 : Good 1 (d + 1) l := by simpa [deep] using h2
    obtain ⟨body, c, rest, n, ns, g', rfl, hc, hG, hg⟩ := hA (g + 1) d l (by simp at hN; omega) h3
    exact ⟨x :: (body ++ [c]), rest, _, g', 2, by simp, by simp, .grp hx hG hc, .inr rfl, hg⟩
theorem good_fac (N : Nat) (hA : ∀ (g d : Nat) (l : List Tok), l.length < N → Good 1 (d + 1) l → ∃ body c rest n ns g', l = body ++ c :: rest ∧ c.kind = 2 ∧ Gr 3 g body (n + 1) ns g' ∧ Good 2 d rest)
    (g prev d : Nat) (x : Tok) (l : List Tok) (hN : (x :: l).length ≤ N) (h : Good prev d (x :: l)) (hx : x.kind = 0 ∨ x.kind = 1) :
    ∃ a rest ns g' k, x :: l = a ++ rest ∧ a ≠ [] ∧ Gr 1 g a 0 ns g' ∧ ended k ∧ headK rest ≠ 4 ∧ Good k d rest := by
  obtain ⟨a, rest, ns, g', k, e, hne, hG, hk, hg⟩ := good_core N hA g prev d x l hN h hx
  cases rest with
  | nil => exact ⟨a, [], ns, g', k, e, hne, .bare hG, by unfold ended; omega, by simp [headK], hg⟩
  | cons r rest =>
    by_cases hr : r.kind = 4
    · have h2 := hg.2
      rw [hr] at h2
      have h3 : Good 4 d rest := by simpa [deep] using h2
      refine ⟨a ++ [r], rest, _, g', 4, by rw [e]; simp, by simp, .rep hG hr, by unfold ended; omega, ?_, h3⟩
      cases rest with
      | nil => simp [headK]
      | cons y rest =>
        intro h4
        have h4' : y.kind = 4 := h4
        have h5 := h3.1
        rw [h4'] at h5
        unfold fits at h5
        omega
    · exact ⟨a, r :: rest, ns, g', k, e, hne, .bare hG, by unfold ended; omega, hr, hg⟩
theorem good_seq (N : Nat) (hA : ∀ (g d : Nat) (l : List Tok), l.length < N → Good 1 (d + 1) l → ∃ body c rest n ns g', l = body ++ c :: rest ∧ c.kind = 2 ∧ Gr 3 g body (n + 1) ns g' ∧ Good 2 d rest) :
    ∀ (M g prev d : Nat) (x : Tok) (l : List Tok), (x :: l).length ≤ M → M ≤ N → Good prev d (x :: l) → (x.kind = 0 ∨ x.kind = 1) →
    ∃ a rest n ns g' k, x :: l = a ++ rest ∧ a ≠ [] ∧ Gr 2 g a (n + 1) ns g' ∧ ended k ∧ headK rest ≠ 0 ∧ headK rest ≠ 1 ∧ headK rest ≠ 4 ∧ Good k d rest
  | 0, g, prev, d, x, l, hM, _, _, _ => by simp at hM
  | M + 1, g, prev, d, x, l, hM, hMN, h, hx => by
    obtain ⟨a, rest, ns, g', k, e, hne, hG, hk, h4, hg⟩ := good_fac N hA g prev d x l (by omega) h hx
    cases rest with
    | nil => exact ⟨a, [], 0, ns, g', k, e, hne, .one hG, hk, by simp [headK], by simp [headK], h4, hg⟩
    | cons y rest =>
      by_cases hy : y.kind = 0 ∨ y.kind = 1
      · have hlen : (y :: rest).length ≤ M := by
          have := congrArg List.length e
          simp only [List.length_cons, List.length_append] at this hM ⊢
          have : 0 < a.length := List.length_pos_iff.2 hne
          omega
        obtain ⟨b, rest2, n, ms, g2, k2, e2, hne2, hG2, hk2, h0, h1, h42, hg2⟩ := good_seq N hA M g' k d y rest hlen (by omega) hg hy
        exact ⟨a ++ b, rest2, n + 1, ns ++ ms, g2, k2, by rw [e, e2]; simp, by simp [hne], .more hG hG2, hk2, h0, h1, h42, hg2⟩
      · exact ⟨a, y :: rest, 0, ns, g', k, e, hne, .one hG, hk, fun h => hy (.inl h), fun h => hy (.inr h), h4, hg⟩
theorem good_alts : ∀ (N g d : Nat) (l : List Tok) (prev : Nat), (prev = 1 ∨ prev = 3) → l.length ≤ N → Good prev (d + 1) l → ∃ body c rest n ns g', l = body ++ c :: rest ∧ c.kind = 2 ∧ Gr 3 g body (n + 1) ns g' ∧ Good 2 d rest
  | 0, g, d, l, prev, _, hl, h => by
    have : l = [] := List.eq_nil_of_length_eq_zero (by omega)
    subst this
    exact absurd h.2 (by omega)
  | N + 1, g, d, l, prev, hp, hl, h => by
    cases l with
    | nil => exact absurd h.2 (by omega)
    | cons x l =>
      have hx : x.kind = 0 ∨ x.kind = 1 := by
        have := h.1
        unfold fits opens at this
        omega
      obtain ⟨a, rest, n, ns, g', k, e, hne, hG, hk, h0, h1, h4, hg⟩ := good_seq (N + 1) (fun g d l hl h => good_alts N g d l 1 (.inl rfl) (by omega) h) (N + 1) g prev (d + 1) x l hl (Nat.le_refl _) h hx
      cases rest with
      | nil => exact absurd hg.2 (by omega)
      | cons y rest =>
        have hy := hg.1
        have h0' : y.kind ≠ 0 := h0
        have h1' : y.kind ≠ 1 := h1
        have h4' : y.kind ≠ 4 := h4
        have hy2 : y.kind = 2 ∨ y.kind = 3 := by unfold fits at hy; omega
        have h2 := hg.2
        rcases hy2 with hy2 | hy2
        · rw [hy2] at h2
          have h3 : Good 2 d rest := by simpa [deep] using h2
          exact ⟨a, y, rest, 0, _, g', e, hy2, .alt hG, h3⟩
        · rw [hy2] at h2
          have h3 : Good 3 (d + 1) rest := by simpa [deep] using h2
          have hlen : rest.length ≤ N := by
            have := congrArg List.length e
            simp only [List.length_cons, List.length_append] at this hl
            omega
          obtain ⟨body, c, rest2, m, ms, g2, e2, hc, hG2, hg2⟩ := good_alts N g' d rest 3 (.inr rfl) hlen h3
          exact ⟨a ++ y :: body, c, rest2, m + 1, _, g2, by rw [e, e2]; simp, hc, .alts hG hy2 hG2, hg2⟩
theorem good_top (g prev d : Nat) (x : Tok) (l : List Tok) (h : Good prev d (x :: l)) (hx : x.kind = 0 ∨ x.kind = 1) :
    ∃ a rest n ns g' k, x :: l = a ++ rest ∧ a ≠ [] ∧ Gr 2 g a (n + 1) ns g' ∧ ended k ∧ headK rest ≠ 0 ∧ headK rest ≠ 1 ∧ headK rest ≠ 4 ∧ Good k d rest :=
  good_seq (x :: l).length (fun g d l _ h => good_alts l.length g d l 1 (.inl rfl) (Nat.le_refl _) h) (x :: l).length g prev d x l (Nat.le_refl _) (Nat.le_refl _) h hx
/-- Behind the factors of a branch: nothing, a bar, or an anchor. -/
theorem good_tail {k : Nat} {rest : List Tok} (hk : ended k) (h0 : headK rest ≠ 0) (h1 : headK rest ≠ 1) (h4 : headK rest ≠ 4) (hg : Good k 0 rest) :
    rest = [] ∨ (∃ b m, rest = b :: m ∧ b.kind = 3 ∧ Good 3 0 m) ∨ (∃ y, rest = [y] ∧ y.kind = 6) ∨ ∃ y b m, rest = y :: b :: m ∧ y.kind = 6 ∧ b.kind = 3 ∧ Good 3 0 m := by
  cases rest with
  | nil => exact .inl rfl
  | cons y rest =>
    have h0' : y.kind ≠ 0 := h0
    have h1' : y.kind ≠ 1 := h1
    have h4' : y.kind ≠ 4 := h4
    have hy := hg.1
    have h2 := hg.2
    unfold fits at hy
    have hk' : k ≠ 7 ∧ k ≠ 3 := by unfold ended at hk; omega
    have hy2 : y.kind = 3 ∨ (y.kind = 6 ∧ (headK rest = 7 ∨ headK rest = 3)) := by omega
    rcases hy2 with hy2 | ⟨hy2, hn⟩
    · rw [hy2] at h2
      exact .inr (.inl ⟨y, rest, rfl, hy2, by simpa [deep] using h2⟩)
    · rw [hy2] at h2
      have h3 : Good 6 0 rest := by simpa [deep] using h2
      cases rest with
      | nil => exact .inr (.inr (.inl ⟨y, rfl, hy2⟩))
      | cons b m =>
        have hb : b.kind = 3 := by
          rcases hn with hn | hn
          · have hb7 : b.kind = 7 := hn
            have := h3.1
            unfold fits at this
            omega
          · exact hn
        have h5 := h3.2
        rw [hb] at h5
        exact .inr (.inr (.inr ⟨y, b, m, rfl, hy2, hb, by simpa [deep] using h5⟩))
theorem good_rule : ∀ (N g : Nat) (l : List Tok) (prev : Nat), (prev = 7 ∨ prev = 3) → l.length ≤ N → Good prev 0 l → ∃ bs g', Rl g l bs g'
  | 0, g, l, prev, hp, hl, h => by
    have : l = [] := List.eq_nil_of_length_eq_zero (by omega)
    subst this
    exact absurd (show opens prev by unfold opens; omega) h.1
  | N + 1, g, l, prev, hp, hl, h => by
    cases l with
    | nil => exact absurd (show opens prev by unfold opens; omega) h.1
    | cons x l =>
      by_cases hx5 : x.kind = 5
      · have h2 := h.2
        rw [hx5] at h2
        have h3 : Good 5 0 l := by simpa [deep] using h2
        cases l with
        | nil => exact absurd (show opens 5 by unfold opens; omega) h3.1
        | cons z l =>
          have hz : z.kind = 0 ∨ z.kind = 1 := by
            have := h3.1
            unfold fits opens at this
            omega
          obtain ⟨a, rest, n, ns, g', k, e, hne, hG, hk, h0, h1, h4, hg⟩ := good_top g 5 0 z l h3 hz
          rw [e]
          have hln : rest.length + 1 ≤ N := by
            have := congrArg List.length e
            simp only [List.length_cons, List.length_append] at this hl
            have : 0 < a.length := List.length_pos_iff.2 hne
            omega
          rcases good_tail hk h0 h1 h4 hg with rfl | ⟨b, m, rfl, hb, hm⟩ | ⟨y, rfl, hy⟩ | ⟨y, b, m, rfl, hy, hb, hm⟩
          · exact ⟨_, g', by rw [List.append_nil]; exact .one (.bol hx5 hG)⟩
          · obtain ⟨bs, g2, hR⟩ := good_rule N g' m 3 (.inr rfl) (by simp at hln; omega) hm
            exact ⟨_, g2, Rl.more (l := x :: a) (.bol hx5 hG) hb hR⟩
          · exact ⟨_, g', .one (.both hx5 hy hG)⟩
          · obtain ⟨bs, g2, hR⟩ := good_rule N g' m 3 (.inr rfl) (by simp at hln; omega) hm
            have := Rl.more (l := x :: (a ++ [y])) (.both hx5 hy hG) hb hR
            have e3 : x :: (a ++ y :: b :: m) = (x :: (a ++ [y])) ++ b :: m := by simp
            rw [e3]
            exact ⟨_, g2, this⟩
      · have hx : x.kind = 0 ∨ x.kind = 1 := by
          have := h.1
          unfold fits opens at this
          omega
        obtain ⟨a, rest, n, ns, g', k, e, hne, hG, hk, h0, h1, h4, hg⟩ := good_top g prev 0 x l h hx
        rw [e]
        have hln : rest.length + 1 ≤ N + 1 := by
          have := congrArg List.length e
          simp only [List.length_cons, List.length_append] at this hl
          have : 0 < a.length := List.length_pos_iff.2 hne
          omega
        rcases good_tail hk h0 h1 h4 hg with rfl | ⟨b, m, rfl, hb, hm⟩ | ⟨y, rfl, hy⟩ | ⟨y, b, m, rfl, hy, hb, hm⟩
        · exact ⟨_, g', by rw [List.append_nil]; exact .one (.none hG)⟩
        · obtain ⟨bs, g2, hR⟩ := good_rule N g' m 3 (.inr rfl) (by simp at hln; omega) hm
          exact ⟨_, g2, Rl.more (l := a) (.none hG) hb hR⟩
        · exact ⟨_, g', .one (.eol hy hG)⟩
        · obtain ⟨bs, g2, hR⟩ := good_rule N g' m 3 (.inr rfl) (by simp at hln; omega) hm
          have := Rl.more (l := a ++ [y]) (.eol hy hG) hb hR
          have e3 : a ++ y :: b :: m = (a ++ [y]) ++ b :: m := by simp
          rw [e3]
          exact ⟨_, g2, this⟩
end Go.Proofs.YtgbdlgogccgciaaGreatDoor
