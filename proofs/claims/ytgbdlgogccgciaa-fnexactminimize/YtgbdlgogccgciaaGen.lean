import Derived.Test.YtgbdlgogccgciaaRows
import Derived.WalkKit
import Derived.WalkSpells
import Derived.WalkLawsBesides
import Derived.ProofKit
import Derived.Deep.AppendLies
import Derived.Deep.Slices
import Derived.Laws.Tables
namespace Go.Proofs.Ytgbdlgogccgciaa
open Go.RowKit

/- WHAT IS THE SAME FOR EVERY LAW: worlds, rows of the call's own, one cell appended. -/
structure Same (lo : Nat) (w w' : World) : Prop where
  size : w.heap.size ≤ w'.heap.size
  block : ∀ k, lo ≤ k → k < w.heap.size → w'.heap[k]? = w.heap[k]?

theorem Same.of_below {lo : Nat} {w w' : World} (h : Below w.heap.size w w') : Same lo w w' := ⟨h.size, fun k _ hk => h.block k hk⟩

theorem Same.trans {lo : Nat} {a b c : World} (h : Same lo a b) (k : Same lo b c) : Same lo a c :=
  ⟨Nat.le_trans h.size k.size, fun i hi hl => (k.block i hi (Nat.lt_of_lt_of_le hl h.size)).trans (h.block i hi hl)⟩

theorem Same.setCell {lo : Nat} (w : World) {a : Addr} (h : a.block < lo) (u : Value) : Same lo w (w.setCell a u) := ⟨by simp [World.setCell], fun _ hk _ => Below.heap_setCell _ _ _ _ (by omega)⟩

theorem Same.cell {lo : Nat} {w w' : World} (h : Same lo w w') {p : Addr} (h1 : lo ≤ p.block) (h2 : p.block < w.heap.size) : w'.cell? p = w.cell? p := World.cell?_of_block (w := w) (h.block p.block h1 h2)

/-- 'Below' from the heap's size on, one step behind another. -/
theorem below_step {B : Nat} {w w1 w2 : World} (h : Below B w w1) (hB : B ≤ w1.heap.size) (k : Below w1.heap.size w1 w2) : Below B w w2 := h.trans (k.mono hB)

theorem ret_int {k : IntKind} {a b : Int} (h : a = b) : Ending.returned (.int k a) = .returned (.int k b) := by rw [h]

theorem ownsRow_below {w w' : World} {base : Nat} {e : TypeId} {size : Nat} {v : Value} {n : Nat} {xs : List Value} (h : w.ownsRow base e size v n xs) (hb : Below w.heap.size w w') : w'.ownsRow base e size v n xs := by
  refine ⟨h.1, ?_⟩
  rcases h.2 with h2 | ⟨g, cap, cur, hv, hg, hh, r⟩
  · exact .inl h2
  · exact .inr ⟨g, cap, cur, hv, hg, by rw [hb.block g (Array.getElem?_eq_some_iff.1 hh).1]; exact hh, r⟩

/-- The first k elements (sz cells each) of a row are f's. -/
def Filled (xs : List Value) (sz k : Nat) (f : Nat → List Value) : Prop := ∀ j, j < k → ∀ c, c < sz → xs[j * sz + c]? = (f j)[c]?

theorem own_cell {w : World} {base : Nat} {e : TypeId} {sz n cap g : Nat} {xs : List Value} (h : w.ownsRow base e sz (.slice (some ⟨g, 0, none⟩) n cap) n xs) {j : Nat} (hj : j < n * sz) :
    ∃ u, w.cell? ⟨g, j, none⟩ = some u := by
  rw [h.cellAt j hj]
  exact ⟨_, List.getElem?_eq_getElem (by rw [h.1]; exact hj)⟩

theorem own_two {w : World} {base : Nat} {e : TypeId} {n cap g : Nat} {xs : List Value} (h : w.ownsRow base e 2 (.slice (some ⟨g, 0, none⟩) n cap) n xs) {k : Nat} (hk : k < n) :
    ∃ u0 u1, w.cell? ⟨g, k * 2, none⟩ = some u0 ∧ w.cell? ⟨g, k * 2 + 1, none⟩ = some u1 ∧ w.frozen? ⟨g, k * 2, none⟩ = false ∧ w.frozen? ⟨g, k * 2 + 1, none⟩ = false := by
  obtain ⟨u0, h0⟩ := own_cell h (j := k * 2) (by omega)
  obtain ⟨u1, h1⟩ := own_cell h (j := k * 2 + 1) (by omega)
  exact ⟨u0, u1, h0, h1, h.frozenAt _, h.frozenAt _⟩

theorem filled_two {xs : List Value} {k : Nat} {f : Nat → List Value} {a b : Value} (h : Filled xs 2 k f) (hl : k * 2 + 1 < xs.length) (hk : f k = [a, b]) : Filled ((xs.set (k * 2) a).set (k * 2 + 1) b) 2 (k + 1) f := by
  intro j hj c hc
  rw [List.getElem?_set, List.getElem?_set]
  by_cases e : j = k
  · subst e
    rw [hk]
    match c, hc with
    | 0, _ => simp; omega
    | 1, _ => simp; omega
  · rw [if_neg (by omega), if_neg (by omega)]
    exact h j (by omega) c hc

theorem filled_five {xs : List Value} {k : Nat} {f : Nat → List Value} {a0 a1 a2 a3 a4 : Value} (h : Filled xs 5 k f) (hl : k * 5 + 4 < xs.length) (hk : f k = [a0, a1, a2, a3, a4]) :
    Filled (((((xs.set (k * 5) a0).set (k * 5 + 1) a1).set (k * 5 + 2) a2).set (k * 5 + 3) a3).set (k * 5 + 4) a4) 5 (k + 1) f := by
  intro j hj c hc
  rw [List.getElem?_set, List.getElem?_set, List.getElem?_set, List.getElem?_set, List.getElem?_set]
  by_cases e : j = k
  · subst e
    rw [hk]
    match c, hc with
    | 0, _ => simp; omega
    | 1, _ => simp; omega
    | 2, _ => simp; omega
    | 3, _ => simp; omega
    | 4, _ => simp; omega
  · rw [if_neg (by omega), if_neg (by omega), if_neg (by omega), if_neg (by omega), if_neg (by omega)]
    exact h j (by omega) c hc

theorem filled_three {xs : List Value} {k : Nat} {f : Nat → List Value} {a0 a1 a2 : Value} (h : Filled xs 3 k f) (hl : k * 3 + 2 < xs.length) (hk : f k = [a0, a1, a2]) :
    Filled (((xs.set (k * 3) a0).set (k * 3 + 1) a1).set (k * 3 + 2) a2) 3 (k + 1) f := by
  intro j hj c hc
  rw [List.getElem?_set, List.getElem?_set, List.getElem?_set]
  by_cases e : j = k
  · subst e
    rw [hk]
    match c, hc with
    | 0, _ => simp; omega
    | 1, _ => simp; omega
    | 2, _ => simp; omega
  · rw [if_neg (by omega), if_neg (by omega), if_neg (by omega)]
    exact h j (by omega) c hc

theorem own_three {w : World} {base : Nat} {e : TypeId} {n cap g : Nat} {xs : List Value} (h : w.ownsRow base e 3 (.slice (some ⟨g, 0, none⟩) n cap) n xs) {k : Nat} (hk : k < n) :
    ∃ u0 u1 u2, w.cell? ⟨g, k * 3, none⟩ = some u0 ∧ w.cell? ⟨g, k * 3 + 1, none⟩ = some u1 ∧ w.cell? ⟨g, k * 3 + 2, none⟩ = some u2 ∧ w.frozen? ⟨g, k * 3, none⟩ = false ∧ w.frozen? ⟨g, k * 3 + 1, none⟩ = false ∧ w.frozen? ⟨g, k * 3 + 2, none⟩ = false := by
  obtain ⟨u0, h0⟩ := own_cell h (j := k * 3) (by omega)
  obtain ⟨u1, h1⟩ := own_cell h (j := k * 3 + 1) (by omega)
  obtain ⟨u2, h2⟩ := own_cell h (j := k * 3 + 2) (by omega)
  exact ⟨u0, u1, u2, h0, h1, h2, h.frozenAt _, h.frozenAt _, h.frozenAt _⟩

theorem own_five {w : World} {base : Nat} {e : TypeId} {n cap g : Nat} {xs : List Value} (h : w.ownsRow base e 5 (.slice (some ⟨g, 0, none⟩) n cap) n xs) {k : Nat} (hk : k < n) :
    ∃ u0 u1 u2 u3 u4, w.cell? ⟨g, k * 5, none⟩ = some u0 ∧ w.cell? ⟨g, k * 5 + 1, none⟩ = some u1 ∧ w.cell? ⟨g, k * 5 + 2, none⟩ = some u2 ∧ w.cell? ⟨g, k * 5 + 3, none⟩ = some u3 ∧ w.cell? ⟨g, k * 5 + 4, none⟩ = some u4 ∧
      w.frozen? ⟨g, k * 5, none⟩ = false ∧ w.frozen? ⟨g, k * 5 + 1, none⟩ = false ∧ w.frozen? ⟨g, k * 5 + 2, none⟩ = false ∧ w.frozen? ⟨g, k * 5 + 3, none⟩ = false ∧ w.frozen? ⟨g, k * 5 + 4, none⟩ = false := by
  obtain ⟨u0, h0⟩ := own_cell h (j := k * 5) (by omega)
  obtain ⟨u1, h1⟩ := own_cell h (j := k * 5 + 1) (by omega)
  obtain ⟨u2, h2⟩ := own_cell h (j := k * 5 + 2) (by omega)
  obtain ⟨u3, h3⟩ := own_cell h (j := k * 5 + 3) (by omega)
  obtain ⟨u4, h4⟩ := own_cell h (j := k * 5 + 4) (by omega)
  exact ⟨u0, u1, u2, u3, u4, h0, h1, h2, h3, h4, h.frozenAt _, h.frozenAt _, h.frozenAt _, h.frozenAt _, h.frozenAt _⟩

theorem filled_cell {w : World} {base : Nat} {e : TypeId} {sz n cap g : Nat} {xs : List Value} {f : Nat → List Value} (h : w.ownsRow base e sz (.slice (some ⟨g, 0, none⟩) n cap) n xs) (hf : Filled xs sz n f) {i c : Nat} (hi : i < n) (hc : c < sz) :
    w.cell? ⟨g, i * sz + c, none⟩ = (f i)[c]? := by
  have : i * sz + c < n * sz := Nat.lt_of_lt_of_le (by omega : i * sz + c < i * sz + sz) (by rw [← Nat.succ_mul]; exact Nat.mul_le_mul_right _ hi)
  rw [h.cellAt _ this]
  exact hf i hi c hc

theorem own_lt {w : World} {base : Nat} {e : TypeId} {sz n cap g : Nat} {xs : List Value} (h : w.ownsRow base e sz (.slice (some ⟨g, 0, none⟩) n cap) n xs) : g < w.heap.size := (h.lt g rfl).2

theorem bcell {W w1 : World} (hb : Below W.heap.size W w1) : (∀ b o, b < W.heap.size → w1.cell? ⟨b, o, none⟩ = W.cell? ⟨b, o, none⟩) ∧ (∀ b o, b < W.heap.size → w1.frozen? ⟨b, o, none⟩ = W.frozen? ⟨b, o, none⟩) :=
  ⟨fun b o h => hb.cell (p := ⟨b, o, none⟩) h, fun b o h => hb.frozen (p := ⟨b, o, none⟩) h⟩

theorem Filled.congr {xs : List Value} {sz k : Nat} {f g : Nat → List Value} (h : Filled xs sz k f) (hfg : ∀ j, j < k → f j = g j) : Filled xs sz k g := fun j hj c hc => by rw [← hfg j hj]; exact h j hj c hc

/-- One more in a family. -/
def upd (S : Nat → Value) (k : Nat) (v : Value) : Nat → Value := fun j => if j = k then v else S j

theorem upd_same (S : Nat → Value) (k : Nat) (v : Value) : upd S k v k = v := by simp [upd]

theorem upd_lt (S : Nat → Value) (v : Value) {j k : Nat} (h : j < k) : upd S k v j = S j := by simp [upd]; omega

theorem ret_bool {a b : Bool} (h : a = b) : Ending.returned (.bool a) = .returned (.bool b) := by rw [h]

theorem row_alloc {w : World} {g : Nat} {o ob : Obj} (h : w.heap[g]? = some o) : (w.alloc ob).heap[g]? = some o := by
  rw [Below.heap_alloc _ _ _ (Array.getElem?_eq_some_iff.1 h).1]; exact h

theorem Below.setRow {B : Nat} {a w : World} (h : Below B a w) {g : Nat} (hg : B ≤ g) (cs : Array Value) : Below B a (w.setRow g cs) :=
  h.trans ⟨rfl, rfl, rfl, by simp, fun k hk => setRow_other _ _ _ _ (by omega)⟩

/-- A row cut at its end. -/
theorem ownsRow_take {w : World} {base : Nat} {e : TypeId} {g cap n m : Nat} {xs : List Value} (h : w.ownsRow base e 1 (.slice (some ⟨g, 0, none⟩) n cap) n xs) (hm : m ≤ n) :
    w.ownsRow base e 1 (.slice (some ⟨g, 0, none⟩) m cap) m (xs.take m) := by
  obtain ⟨h1, h2⟩ := h
  rcases h2 with ⟨h0, _⟩ | ⟨g', cap', cur, hv, hg, hh, hn, hcap, hsz, htake⟩
  · cases h0
  · cases hv
    refine ⟨by simp at h1 ⊢; omega, .inr ⟨g, cap, cur, rfl, hg, hh, by omega, hcap, hsz, ?_⟩⟩
    rw [← htake, List.take_take]
    congr 1
    omega

/-- A row that has just been laid, empty. -/
theorem ownsRow_new (w : World) (e : TypeId) : (w.alloc (.cells #[] e)).ownsRow w.heap.size e 1 (.slice (some ⟨w.heap.size, 0, none⟩) 0 0) 0 [] :=
  ⟨rfl, .inr ⟨w.heap.size, 0, #[], rfl, Nat.le_refl _, heap_alloc_new _ _, Nat.le_refl _, Nat.zero_le _, rfl, rfl⟩⟩

theorem own_form {w : World} {base : Nat} {e : TypeId} {g cap n : Nat} {xs : List Value} (h : w.ownsRow base e 1 (.slice (some ⟨g, 0, none⟩) n cap) n xs) : base ≤ g ∧ g < w.heap.size ∧ n ≤ cap ∧ cap ≤ maxLen := by
  obtain ⟨h1, h2⟩ := h
  rcases h2 with ⟨h0, _⟩ | ⟨g', cap', cur, hv, hg, hh, hn, hcap, hsz, htake⟩
  · cases h0
  · cases hv
    exact ⟨hg, (Array.getElem?_eq_some_iff.1 hh).1, hn, hcap⟩

/-- 'append(s, x)', one cell, onto a row of the call's own: where the new row lies. -/
theorem wpList_append_one {P : Program} {ops : Array Oper} {rest : List Oper} {o : Oper} {a : Act} {Q : Exit → Act → World → Prop} (w : World) (hgd : o.guard = none) (s x : Operand) (t : TypeId)
    (ho : o.op = .call { callee := .builtin .append, args := #[s, x], argTypes := #[t, t] })
    (base : Nat) (e : TypeId) (i : TypeInfo) (z : Value) (bytes : Nat) (ht : P.underlying t = some (.slice e)) (hi : P.info? e = some i) (hz : i.zero = some z)
    (hsize : i.size = 1) (hby : i.bytes = bytes) (hzs : z.cells.size = 1)
    (g cap n : Nat) (xs : List Value) (u : Value) (hs : a.eval s = .slice (some ⟨g, 0, none⟩) n cap) (hown : w.ownsRow base e 1 (.slice (some ⟨g, 0, none⟩) n cap) n xs)
    (hx : a.eval x = .slice (some ⟨w.heap.size, 0, none⟩) 1 1) (h1 : u.oneCell' = true) (hn : n ≤ 2000000) (hbytes : bytes ≤ 64) (hbase : base ≤ w.heap.size)
    (h : ∀ g' cap' w', w'.ownsRow base e 1 (.slice (some ⟨g', 0, none⟩) (n + 1) cap') (n + 1) (xs ++ [u]) → w.grownBy w' (some g) → (g' = g ∨ g' = w.heap.size + 1) → wpList P ops Q rest (a.put o.dst (.slice (some ⟨g', 0, none⟩) (n + 1) cap')) w') :
    wpList P ops Q (o :: rest) a (w.alloc (.cells #[u] e)) := by
  refine wpList_append_lies _ hgd s x t ho base e i z 1 bytes ht hi hz hsize hby hzs (by omega) _ n xs hs (hown.alloc _) ⟨w.heap.size, 0, none⟩ 1 1 [u] hx rfl ?_ ?_ (by omega) (by unfold maxLen; omega) ?_ (by simp; omega) (w.heap.size + 1) (by simp) ?_
  · intro j v hv
    match j, hv with
    | 0, hv => simp at hv; subst hv; simp [Addr.add]
  · intro v hv; simp at hv; subst hv; exact h1
  · have : (n + 1) * bytes ≤ 2000001 * 64 := Nat.mul_le_mul (by omega) hbytes
    omega
  · intro g' cap' w' ho2 hgr hat hlt
    refine h g' cap' w' ho2 ⟨hgr.os, hgr.tape, hgr.output, Nat.le_trans (by simp) hgr.size, fun k hk hne => ?_⟩ ?_
    · rw [hgr.block k (by simp; omega) (by simpa [Value.ownBlock] using hne), Below.heap_alloc _ _ _ hk]
    · rcases hat with hat | hat
      · left; simp [Value.ownBlock] at hat; exact hat.symm
      · exact .inr hat

theorem ownsRow_new_at (w : World) (e : TypeId) (B H : Nat) (hB : B ≤ H) (hH : w.heap.size = H) : (w.alloc (.cells #[] e)).ownsRow B e 1 (.slice (some ⟨H, 0, none⟩) 0 0) 0 [] := by
  subst hH
  exact ⟨rfl, .inr ⟨w.heap.size, 0, #[], rfl, hB, heap_alloc_new _ _, Nat.le_refl _, Nat.zero_le _, rfl, rfl⟩⟩

theorem wpList_append_oneH {P : Program} {ops : Array Oper} {rest : List Oper} {o : Oper} {a : Act} {Q : Exit → Act → World → Prop} (w : World) (H : Nat) (hH : w.heap.size = H) (hgd : o.guard = none) (s x : Operand) (t : TypeId)
    (ho : o.op = .call { callee := .builtin .append, args := #[s, x], argTypes := #[t, t] })
    (base : Nat) (e : TypeId) (i : TypeInfo) (z : Value) (bytes : Nat) (ht : P.underlying t = some (.slice e)) (hi : P.info? e = some i) (hz : i.zero = some z)
    (hsize : i.size = 1) (hby : i.bytes = bytes) (hzs : z.cells.size = 1)
    (g cap n : Nat) (xs : List Value) (u : Value) (hs : a.eval s = .slice (some ⟨g, 0, none⟩) n cap) (hown : w.ownsRow base e 1 (.slice (some ⟨g, 0, none⟩) n cap) n xs)
    (hx : a.eval x = .slice (some ⟨H, 0, none⟩) 1 1) (h1 : u.oneCell' = true) (hn : n ≤ 2000000) (hbytes : bytes ≤ 64) (hbase : base ≤ w.heap.size)
    (h : ∀ g' cap' w', w'.ownsRow base e 1 (.slice (some ⟨g', 0, none⟩) (n + 1) cap') (n + 1) (xs ++ [u]) → w.grownBy w' (some g) → (g' = g ∨ g' = w.heap.size + 1) → wpList P ops Q rest (a.put o.dst (.slice (some ⟨g', 0, none⟩) (n + 1) cap')) w') :
    wpList P ops Q (o :: rest) a (w.alloc (.cells #[u] e)) := by
  subst hH
  exact wpList_append_one w hgd s x t ho base e i z bytes ht hi hz hsize hby hzs g cap n xs u hs hown hx h1 hn hbytes hbase h

theorem list3 {α : Type} {l : List α} (h : l.length = 3) : ∃ a b c, l = [a, b, c] := by
  match l, h with
  | [a, b, c], _ => exact ⟨a, b, c, rfl⟩

theorem list5 {α : Type} {l : List α} (h : l.length = 5) : ∃ a b c d e, l = [a, b, c, d, e] := by
  match l, h with
  | [a, b, c, d, e], _ => exact ⟨a, b, c, d, e, rfl⟩

theorem spot_none {W : World} {a : Addr} {v : Value} (h : W.cell? a = some v) : a = ⟨a.block, a.off, none⟩ := by
  obtain ⟨b, o, s⟩ := a
  cases s with
  | none => rfl
  | some q =>
    simp only [World.cell?] at h
    split at h <;> simp at h

/-- The rows of a slice's array, cell by cell. -/
theorem open_rows {W : World} {a : Addr} {len sz : Nat} {E : List Value → Prop} (hsz : 0 < sz) (h : ∀ i, i < len → ∃ cs, W.cells? 0 (a.add (i * sz)) sz = some cs ∧ E cs) (h0 : 0 < len) :
    ∃ (b o : Nat) (C : Nat → List Value), a = ⟨b, o, none⟩ ∧ b < W.heap.size ∧ ∀ i, i < len → E (C i) ∧ ∀ j, j < sz → W.cell? ⟨b, o + i * sz + j, none⟩ = (C i)[j]? := by
  obtain ⟨cs0, h1, _⟩ := h 0 h0
  obtain ⟨_, hl, hc⟩ := World.cells?_some h1
  have hz := hc 0 hsz
  rw [Nat.zero_mul, List.getElem?_eq_getElem (by omega)] at hz
  have ha : a.add 0 = a := by simp [Addr.add]
  rw [ha, ha] at hz
  have hs := spot_none hz
  obtain ⟨C, hC⟩ := Go.Deep.choose_lt (α := List Value) (p := fun i cs => W.cells? 0 (a.add (i * sz)) sz = some cs ∧ E cs) h
  refine ⟨a.block, a.off, C, hs, block_lt_of_cell hz, fun i hi => ⟨(hC i hi).2, fun j hj => ?_⟩⟩
  obtain ⟨_, _, hc2⟩ := World.cells?_some (hC i hi).1
  rw [← hc2 j hj, Go.Deep.add_add]
  congr 1
  rw [hs]
  unfold Addr.add
  split
  · rename_i h
    simp only [Addr.mk.injEq, true_and, and_true]
    omega
  · simp

theorem range_map_get {α : Type} (f : Nat → α) (d : α) (n i : Nat) (h : i < n) : ((List.range n).map f).getD i d = f i := by
  simp [List.getD, h]

theorem maxLen_num {n : Nat} (h : n ≤ maxLen) : n ≤ 9223372036854775807 := by simpa [maxLen] using h

theorem Try.infoInt : (Try.prog.info? 3).map (fun i => (i.zero, i.size, i.bytes)) = some (some (.int .i64 0), 1, 8) := by kernel_rfl
end Go.Proofs.Ytgbdlgogccgciaa
