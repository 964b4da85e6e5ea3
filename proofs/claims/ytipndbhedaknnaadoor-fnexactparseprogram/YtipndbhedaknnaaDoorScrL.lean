import Derived.Test.YtipndbhedaknnaaDoorScr
namespace Go.Proofs.YtipndbhedaknnaaDoor
open Go.RowKit
attribute [local go_sem ↓] Go.wp_at_zero Go.wp_at_succ

/-- What a reader of scripts answers. -/
def ScrAns (w : World) (r : List (Int × List UInt8) × Int × Int) (e : Ending) (w' : World) : Prop :=
  ∃ g cap, e = .returned (.tuple #[.slice (some ⟨g, 0, none⟩) r.1.length cap, .int .i64 r.2.1, .int .i64 r.2.2]) ∧ Evs w.heap.size w' g cap r.1 ∧ Below w.heap.size w w'
theorem ownsRow_newB (w : World) (e : TypeId) (sz : Nat) {B : Nat} (hB : B ≤ w.heap.size) : (w.alloc (.cells #[] e)).ownsRow B e sz (.slice (some ⟨w.heap.size, 0, none⟩) 0 0) 0 [] :=
  ⟨by simp, .inr ⟨w.heap.size, 0, #[], rfl, hB, heap_alloc_new _ _, Nat.le_refl _, Nat.zero_le _, by simp, by simp⟩⟩
theorem ownsRow_block {w w' : World} {base : Nat} {e : TypeId} {sz g cap n : Nat} {xs : List Value} (h : w.ownsRow base e sz (.slice (some ⟨g, 0, none⟩) n cap) n xs) (hb : w'.heap[g]? = w.heap[g]?) : w'.ownsRow base e sz (.slice (some ⟨g, 0, none⟩) n cap) n xs := by
  obtain ⟨h1, h2⟩ := h
  refine ⟨h1, ?_⟩
  rcases h2 with ⟨h0, _⟩ | ⟨g', cap', cur, hv, hg, hh, r⟩
  · cases h0
  · cases hv
    exact .inr ⟨g, cap, cur, rfl, hg, hb.trans hh, r⟩
theorem ret_scr {g n cap : Nat} {a b : Int} {r : List (Int × List UInt8) × Int × Int} (h1 : n = r.1.length) (h2 : a = r.2.1) (h3 : b = r.2.2) : Ending.returned (.tuple #[.slice (some ⟨g, 0, none⟩) n cap, .int .i64 a, .int .i64 b]) = .returned (.tuple #[.slice (some ⟨g, 0, none⟩) r.1.length cap, .int .i64 r.2.1, .int .i64 r.2.2]) := by rw [h1, h2, h3]
theorem scrAns_bad {w W : World} {r : List (Int × List UInt8) × Int × Int} {c l : Int} (hr : r = ([], c, l)) (hb : Below w.heap.size w W) : ScrAns w r (.returned (.tuple #[.slice (some ⟨W.heap.size, 0, none⟩) 0 0, .int .i64 c, .int .i64 l])) (W.alloc (.cells #[] 58)) := by
  subst hr
  exact ⟨_, 0, rfl, ownsRow_newB _ _ _ hb.size, hb.alloc hb.size _⟩
/-- The same where the world is told by an equation: it fails at once at another operation. -/
theorem wpList_append_pairW {P : Program} {ops : Array Oper} {rest : List Oper} {o : Oper} {a : Act} {Q : Exit → Act → World → Prop} {W : World} (hgd : o.guard = none) (s x : Operand) (t : TypeId)
    (ho : o.op = .call { callee := .builtin .append, args := #[s, x], argTypes := #[t, t] }) (w : World) (u v : Value) (e : TypeId) (hW : W = w.alloc (.cells #[u, v] e)) (H : Nat) (hH : w.heap.size = H)
    (base : Nat) (i : TypeInfo) (z : Value) (bytes : Nat) (ht : P.underlying t = some (.slice e)) (hi : P.info? e = some i) (hz : i.zero = some z)
    (hsize : i.size = 2) (hby : i.bytes = bytes) (hzs : z.cells.size = 2)
    (g cap n : Nat) (xs : List Value) (hs : a.eval s = .slice (some ⟨g, 0, none⟩) n cap) (hown : w.ownsRow base e 2 (.slice (some ⟨g, 0, none⟩) n cap) n xs)
    (hx : a.eval x = .slice (some ⟨H, 0, none⟩) 1 1) (h1 : u.oneCell' = true) (h2 : v.oneCell' = true) (hn : n ≤ 2000000) (hbytes : bytes ≤ 64) (hbase : base ≤ w.heap.size)
    (h : ∀ g' cap' w', w'.ownsRow base e 2 (.slice (some ⟨g', 0, none⟩) (n + 1) cap') (n + 1) (xs ++ [u, v]) → w.grownBy w' (some g) → (g' = g ∨ g' = w.heap.size + 1) → wpList P ops Q rest (a.put o.dst (.slice (some ⟨g', 0, none⟩) (n + 1) cap')) w') :
    wpList P ops Q (o :: rest) a W := by
  subst hW
  exact wpList_append_pair w H hH hgd s x t ho base e i z bytes ht hi hz hsize hby hzs g cap n xs u v hs hown hx h1 h2 hn hbytes hbase h
/-- The facts of one line. -/
structure LineAt (t : ByteArray) (k : Nat) (rb : ByteArray) : Prop where
  lt : k < (cutF 10 t.data.toList).length
  eq : (cutF 10 t.data.toList)[k] = rb.data.toList
theorem LineAt.skip0 {t rb : ByteArray} {k : Nat} (h : LineAt t k rb) (he : rb.toList.isEmpty = true) : skipF ((cutF 10 t.data.toList)[k]'(h.lt)) = true := by
  rw [h.eq, ← toList_eq]
  cases e : rb.toList with
  | nil => rfl
  | cons a b => rw [e] at he; simp at he
theorem pos_of {rb : ByteArray} (he : rb.toList.isEmpty = false) : 0 < rb.size := by
  rw [toList_eq] at he
  apply Classical.byContradiction
  intro hn
  have : rb.data.toList = [] := List.eq_nil_of_length_eq_zero (by rw [Array.length_toList]; show rb.size = 0; omega)
  rw [this] at he
  simp at he
theorem LineAt.skip1 {t rb : ByteArray} {k : Nat} (h : LineAt t k rb) (hp : 0 < rb.size) : skipF ((cutF 10 t.data.toList)[k]'(h.lt)) = decide ((rb[0].toNat : Int) = 35) := by
  rw [h.eq]
  have := drop_at rb 0 hp
  rw [List.drop_zero] at this
  rw [this]
  rfl
theorem LineAt.small {t rb : ByteArray} {k : Nat} (h : LineAt t k rb) (ht : t.size ≤ 20000) : rb.size ≤ 20000 := by
  have h1 := cutF_each 10 t.data.toList _ (List.getElem_mem h.lt)
  rw [h.eq, Array.length_toList, Array.length_toList] at h1
  exact Nat.le_trans h1 ht
theorem evF_tick {rb : ByteArray} (h : (rb.toList == [116, 105, 99, 107]) = true) : evF rb.data.toList = some (2, []) := by
  rw [← toList_eq]
  unfold evF
  rw [if_pos (by simpa using h)]
theorem evF_eof {rb : ByteArray} (h : (rb.toList == [101, 111, 102]) = true) (h0 : (rb.toList == [116, 105, 99, 107]) = false) : evF rb.data.toList = some (3, []) := by
  rw [← toList_eq]
  unfold evF
  rw [if_neg (by simpa using h0), if_pos (by simpa using h)]
theorem evF_else {rb : ByteArray} (h : (rb.toList == [101, 111, 102]) = false) (h0 : (rb.toList == [116, 105, 99, 107]) = false) : evF rb.data.toList = evIn (cutF 32 rb.data.toList) := by
  rw [toList_eq] at h h0
  unfold evF
  rw [if_neg (by simpa using h0), if_neg (by simpa using h)]
theorem evIn_not {fs : List (List UInt8)} (h : ¬fs.getD 0 [] = [105, 110]) : evIn fs = none := by
  match fs, h with
  | [], _ => rfl
  | [a], _ => rfl
  | [a, b], h => rw [evIn, if_neg (by simpa using h)]
  | a :: b :: c :: d, _ => rfl
theorem evIn_len {fs : List (List UInt8)} (h : ¬fs.length = 2) : evIn fs = none := by
  match fs, h with
  | [], _ => rfl
  | [a], _ => rfl
  | [a, b], h => exact absurd rfl h
  | a :: b :: c :: d, _ => rfl
theorem evIn_in {fs : List (List UInt8)} (h : fs.length = 2) (h1 : fs.getD 0 [] = [105, 110]) : evIn fs = (wordF (fs.getD 1 [])).map (fun d => (1, d)) := by
  match fs, h, h1 with
  | [a, b], _, h1 => rw [evIn, if_pos (by simpa using h1)]; rfl
theorem in_of {fb : ByteArray} {l : List UInt8} (h : l = fb.data.toList) (b : Bool) (hb : (fb.toList == [105, 110]) = b) : decide (l = [105, 110]) = b := by
  rw [toList_eq, ← h] at hb
  rw [← hb]
  by_cases hx : l = [105, 110]
  · rw [hx]; rfl
  · rw [decide_eq_false hx]
    symm
    exact beq_eq_false_iff_ne.2 hx
end Go.Proofs.YtipndbhedaknnaaDoor
