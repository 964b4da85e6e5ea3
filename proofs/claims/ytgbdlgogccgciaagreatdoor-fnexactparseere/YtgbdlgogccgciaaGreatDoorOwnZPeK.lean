import Derived.Test.YtgbdlgogccgciaaGreatDoorTxBBtwRowPeAPeB
import Derived.Test.YtgbdlgogccgciaaGreatDoorPeEPeFPeIPeJ
namespace Go.Proofs.YtgbdlgogccgciaaGreatDoor
open Go.RowKit

/- ROWS OF THE CALL's OWN, ELEMENTS OF SEVERAL CELLS (as Prg, PrgT have them; for seats without programs). -/
theorem ownsRow_keep {w w' : World} {base : Nat} {e : TypeId} {sz n : Nat} {v : Value} {xs : List Value} (h : w.ownsRow base e sz v n xs) (hb : ∀ b, v.ownBlock = some b → w'.heap[b]? = w.heap[b]?) : w'.ownsRow base e sz v n xs := by
  obtain ⟨h1, h2⟩ := h
  refine ⟨h1, ?_⟩
  rcases h2 with h0 | ⟨g, cap, cur, rfl, hg, hh, r⟩
  · exact .inl h0
  · exact .inr ⟨g, cap, cur, rfl, hg, (hb g rfl).trans hh, r⟩
theorem ownsRow_blk {w : World} {base : Nat} {e : TypeId} {sz n : Nat} {v : Value} {xs : List Value} (h : w.ownsRow base e sz v n xs) {b : Nat} (hb : v.ownBlock = some b) : base ≤ b ∧ b < w.heap.size := by
  obtain ⟨h1, h2⟩ := h
  rcases h2 with ⟨rfl, _⟩ | ⟨g, cap, cur, rfl, hg, hh, r⟩
  · simp [Value.ownBlock] at hb
  · simp [Value.ownBlock] at hb
    subst hb
    exact ⟨hg, (Array.getElem?_eq_some_iff.1 hh).1⟩
/-- 'append(s, x)', one element of sz cells, onto a row of the call's own or nil; the world is told by an equation. -/
theorem wpList_append_szW {P : Program} {ops : Array Oper} {rest : List Oper} {o : Oper} {a : Act} {Q : Exit → Act → World → Prop} {W : World} (hgd : o.guard = none) (s x : Operand) (t : TypeId)
    (ho : o.op = .call { callee := .builtin .append, args := #[s, x], argTypes := #[t, t] }) (w : World) (us : Array Value) (e : TypeId) (hW : W = w.alloc (.cells us e)) (H : Nat) (hH : w.heap.size = H)
    (base : Nat) (i : TypeInfo) (z : Value) (sz bytes : Nat) (ht : P.underlying t = some (.slice e)) (hi : P.info? e = some i) (hz : i.zero = some z)
    (hsize : i.size = sz) (hby : i.bytes = bytes) (hzs : z.cells.size = sz) (hsz : 0 < sz)
    (v : Value) (n : Nat) (xs : List Value) (hs : a.eval s = v) (hown : w.ownsRow base e sz v n xs)
    (hx : a.eval x = .slice (some ⟨H, 0, none⟩) 1 1) (hl : us.size = sz) (h1 : ∀ u ∈ us.toList, u.oneCell' = true) (hn : n ≤ 2000000) (hbytes : bytes ≤ 1000) (hbase : base ≤ w.heap.size)
    (h : ∀ g' cap' w', w'.ownsRow base e sz (.slice (some ⟨g', 0, none⟩) (n + 1) cap') (n + 1) (xs ++ us.toList) → w.grownBy w' v.ownBlock → (v.ownBlock = some g' ∨ w.heap.size ≤ g') → wpList P ops Q rest (a.put o.dst (.slice (some ⟨g', 0, none⟩) (n + 1) cap')) w') :
    wpList P ops Q (o :: rest) a W := by
  subst hW hH
  refine wpList_append_lies _ hgd s x t ho base e i z sz bytes ht hi hz hsize hby hzs hsz v n xs hs (hown.alloc _) ⟨w.heap.size, 0, none⟩ 1 1 us.toList hx (by simp [hl]) ?_ h1 (by omega) (by unfold maxLen; omega) ?_ (by simp; omega) (w.heap.size + 1) (by simp) ?_
  · intro j y hv
    have e1 : (⟨w.heap.size, 0, none⟩ : Addr).add j = ⟨w.heap.size, j, none⟩ := by unfold Addr.add; split <;> simp_all
    rw [e1, cell_of_row _ _ _ _ _ _ (heap_alloc_new w _)]
    rw [← hv]
    simp
  · have : (n + 1) * bytes ≤ 2000001 * 1000 := Nat.mul_le_mul (by omega) hbytes
    omega
  · intro g' cap' w' ho2 hgr hat hlt
    refine h g' cap' w' ho2 ⟨hgr.os, hgr.tape, hgr.output, Nat.le_trans (by simp) hgr.size, fun k hk hne => ?_⟩ ?_
    · rw [hgr.block k (by simp; omega) hne, Below.heap_alloc _ _ _ hk]
    · rcases hat with hat | hat
      · exact .inl hat
      · exact .inr (by omega)
theorem flat_len {f : Nat → List Value} {sz : Nat} (h : ∀ k, (f k).length = sz) (n : Nat) : ((List.range n).flatMap f).length = n * sz := by
  induction n with
  | zero => simp
  | succ n ih => rw [List.range_succ, List.flatMap_append, List.length_append, ih]; simp [h, Nat.succ_mul]
theorem flat_get {f : Nat → List Value} {sz : Nat} (h : ∀ k, (f k).length = sz) (n k j : Nat) (hk : k < n) (hj : j < sz) : ((List.range n).flatMap f)[k * sz + j]? = (f k)[j]? := by
  induction n with
  | zero => omega
  | succ n ih =>
    rw [List.range_succ, List.flatMap_append]
    by_cases e : k < n
    · rw [List.getElem?_append_left, ih e]
      rw [flat_len h]
      have : (k + 1) * sz ≤ n * sz := Nat.mul_le_mul_right _ e
      rw [Nat.succ_mul] at this
      omega
    · have e2 : k = n := by omega
      subst e2
      rw [List.getElem?_append_right (by rw [flat_len h]; omega), flat_len h, Nat.add_sub_cancel_left]
      simp
theorem flat_congr {f g : Nat → List Value} (n : Nat) (h : ∀ k, k < n → f k = g k) : (List.range n).flatMap f = (List.range n).flatMap g := by
  induction n with
  | zero => rfl
  | succ n ih => rw [List.range_succ, List.flatMap_append, List.flatMap_append, ih fun k hk => h k (by omega)]; simp [h n (by omega)]
theorem flat_succ (f : Nat → List Value) (n : Nat) : (List.range (n + 1)).flatMap f = (List.range n).flatMap f ++ f n := by rw [List.range_succ, List.flatMap_append]; simp
theorem ownsRow_newZ (w : World) (e : TypeId) (sz B H : Nat) (hB : B ≤ H) (hH : w.heap.size = H) : (w.alloc (.cells #[] e)).ownsRow B e sz (.slice (some ⟨H, 0, none⟩) 0 0) 0 [] := by
  subst hH
  exact ⟨by simp, .inr ⟨w.heap.size, 0, #[], rfl, hB, heap_alloc_new _ _, by simp, by simp [maxLen], by simp, by simp⟩⟩
end Go.Proofs.YtgbdlgogccgciaaGreatDoor
namespace Go.Proofs.YtgbdlgogccgciaaGreatDoor
open Go.RowKit

/- THE SPECIFICATION's TOKENS, A ROW OF FIVE CELLS EACH; THE SETS LIE IN ROWS OF THEIR OWN. -/
def kB : Nat → Int
  | 0 => 97
  | 1 => 40
  | 2 => 41
  | 3 => 124
  | 4 => 114
  | 5 => 94
  | _ => 36
theorem kB_inj {a b : Nat} (ha : a < 7) (hb : b < 7) (h : kB a = kB b) : a = b := by
  match a, b, ha, hb with
  | 0, 0, _, _ => rfl
  | 1, 1, _, _ => rfl
  | 2, 2, _, _ => rfl
  | 3, 3, _, _ => rfl
  | 4, 4, _, _ => rfl
  | 5, 5, _, _ => rfl
  | 6, 6, _, _ => rfl
  | 0, 1, _, _ | 0, 2, _, _ | 0, 3, _, _ | 0, 4, _, _ | 0, 5, _, _ | 0, 6, _, _ => exact absurd h (by decide)
  | 1, 0, _, _ | 1, 2, _, _ | 1, 3, _, _ | 1, 4, _, _ | 1, 5, _, _ | 1, 6, _, _ => exact absurd h (by decide)
  | 2, 0, _, _ | 2, 1, _, _ | 2, 3, _, _ | 2, 4, _, _ | 2, 5, _, _ | 2, 6, _, _ => exact absurd h (by decide)
  | 3, 0, _, _ | 3, 1, _, _ | 3, 2, _, _ | 3, 4, _, _ | 3, 5, _, _ | 3, 6, _, _ => exact absurd h (by decide)
  | 4, 0, _, _ | 4, 1, _, _ | 4, 2, _, _ | 4, 3, _, _ | 4, 5, _, _ | 4, 6, _, _ => exact absurd h (by decide)
  | 5, 0, _, _ | 5, 1, _, _ | 5, 2, _, _ | 5, 3, _, _ | 5, 4, _, _ | 5, 6, _, _ => exact absurd h (by decide)
  | 6, 0, _, _ | 6, 1, _, _ | 6, 2, _, _ | 6, 3, _, _ | 6, 4, _, _ | 6, 5, _, _ => exact absurd h (by decide)
theorem kB_bd (k : Nat) : 36 ≤ kB k ∧ kB k ≤ 124 := by unfold kB; split <;> omega
def setV (x : Tok) (q : Nat) : Value := if x.kind = 0 then .slice (some ⟨q, 0, none⟩) 256 256 else .slice none 0 0
def mS (g : Nat) (l : List Tok) (k : Nat) : Int := if kAt l k = 1 then ((g + numN l (k + 1) : Nat) : Int) else (l.getD k tokZ).mn
def tkC (g : Nat) (l : List Tok) (q : Nat → Nat) (k : Nat) : List Value := [.int .u8 (kB (kAt l k)), .int .i64 ((l.getD k tokZ).pos : Int), setV (l.getD k tokZ) (q k), .int .i64 (mS g l k), .int .i64 (l.getD k tokZ).mx]
def tksC (l : List Tok) (q : Nat → Nat) : List Value := (List.range l.length).flatMap (tkC 0 l q)
theorem tksC_len (l : List Tok) (q : Nat → Nat) : (tksC l q).length = l.length * 5 := flat_len (f := tkC 0 l q) (fun _ => rfl) _
theorem tksC_get (l : List Tok) (q : Nat → Nat) {k j : Nat} (hk : k < l.length) (hj : j < 5) : (tksC l q)[k * 5 + j]? = (tkC 0 l q k)[j]? := flat_get (f := tkC 0 l q) (sz := 5) (fun _ => rfl) _ _ _ hk hj
theorem getD_app {l : List Tok} (m : List Tok) {k : Nat} (h : k < l.length) : (l ++ m).getD k tokZ = l.getD k tokZ := by simp [List.getD, List.getElem?_append_left h]
theorem getD_app2 (l m : List Tok) (k : Nat) : (l ++ m).getD (l.length + k) tokZ = m.getD k tokZ := by
  simp only [List.getD]
  rw [List.getElem?_append_right (by omega), Nat.add_sub_cancel_left]
theorem getD_end (l : List Tok) (x : Tok) : (l ++ [x]).getD l.length tokZ = x := by simp [List.getD]
theorem kAt_app {l : List Tok} (m : List Tok) {k : Nat} (h : k < l.length) : kAt (l ++ m) k = kAt l k := by unfold kAt; rw [getD_app m h]
theorem kAt_app2 (l m : List Tok) (k : Nat) : kAt (l ++ m) (l.length + k) = kAt m k := by unfold kAt; rw [getD_app2]
theorem kAt_end (l : List Tok) (x : Tok) : kAt (l ++ [x]) l.length = x.kind := by unfold kAt; rw [getD_end]
theorem numN_app {l : List Tok} (m : List Tok) : ∀ {k : Nat}, k ≤ l.length → numN (l ++ m) k = numN l k
  | 0, _ => rfl
  | k + 1, h => by show numN (l ++ m) k + _ = numN l k + _; rw [numN_app m (show k ≤ l.length by omega), kAt_app m (by omega)]
theorem numN_app2 (l m : List Tok) : ∀ k, numN (l ++ m) (l.length + k) = numN l l.length + numN m k
  | 0 => by rw [Nat.add_zero, numN_app m (Nat.le_refl _)]; rfl
  | k + 1 => by
    show numN (l ++ m) (l.length + k) + (if kAt (l ++ m) (l.length + k) = 1 then 1 else 0) = _ + (numN m k + _)
    rw [numN_app2 l m k, kAt_app2]; omega
theorem tnum_le (l : List Tok) : ∀ k, numN l k ≤ k
  | 0 => Nat.le_refl _
  | k + 1 => by
    have := tnum_le l k
    show numN l k + (if kAt l k = 1 then 1 else 0) ≤ k + 1
    split <;> omega
theorem depI_app {l : List Tok} (m : List Tok) : ∀ {k : Nat}, k ≤ l.length → depI (l ++ m) k = depI l k
  | 0, _ => rfl
  | k + 1, h => by show depI (l ++ m) k + _ = depI l k + _; rw [depI_app m (show k ≤ l.length by omega), kAt_app m (by omega)]
theorem depI_app2 (l m : List Tok) : ∀ k, depI (l ++ m) (l.length + k) = depI l l.length + depI m k
  | 0 => by rw [Nat.add_zero, depI_app m (Nat.le_refl _)]; show _ = _ + 0; omega
  | k + 1 => by
    show depI (l ++ m) (l.length + k) + (if kAt (l ++ m) (l.length + k) = 1 then 1 else if kAt (l ++ m) (l.length + k) = 2 then -1 else 0) = _ + (depI m k + _)
    rw [depI_app2 l m k, kAt_app2]; omega
theorem tkC_app {g : Nat} {l : List Tok} (m : List Tok) {q q' : Nat → Nat} {k : Nat} (h : k < l.length) (hq : q' k = q k) : tkC g (l ++ m) q' k = tkC g l q k := by
  unfold tkC mS
  rw [kAt_app m h, getD_app m h, numN_app m (by omega), hq]
theorem tksC_app (l : List Tok) (x : Tok) (q q' : Nat → Nat) (hq : ∀ k, k < l.length → q' k = q k) : tksC (l ++ [x]) q' = tksC l q ++ tkC 0 (l ++ [x]) q' l.length := by
  unfold tksC
  rw [List.length_append, show [x].length = 1 from rfl, flat_succ]
  congr 1
  exact flat_congr _ fun k hk => tkC_app _ hk (hq k hk)
structure TkS (B : Nat) (W : World) (sv : Value) (l : List Tok) (q : Nat → Nat) : Prop where
  row : W.ownsRow B 36 5 sv l.length (tksC l q)
  set : ∀ k, k < l.length → kAt l k = 0 → B ≤ q k ∧ sv.ownBlock ≠ some (q k) ∧ BRow W (q k) (l.getD k tokZ).set
theorem TkS.keep {B : Nat} {W W' : World} {sv : Value} {l : List Tok} {q : Nat → Nat} (h : TkS B W sv l q) (hk : ∀ b, B ≤ b → b < W.heap.size → W'.heap[b]? = W.heap[b]?) : TkS B W' sv l q :=
  ⟨ownsRow_keep h.row fun b hb => hk b (ownsRow_blk h.row hb).1 (ownsRow_blk h.row hb).2, fun k h1 h2 => ⟨(h.set k h1 h2).1, (h.set k h1 h2).2.1, (hk _ (h.set k h1 h2).1 (row_lt (h.set k h1 h2).2.2)).trans (h.set k h1 h2).2.2⟩⟩
theorem TkS.below {B : Nat} {W W' : World} {sv : Value} {l : List Tok} {q : Nat → Nat} (h : TkS B W sv l q) (hb : Below W.heap.size W W') : TkS B W' sv l q := h.keep fun b _ hl => hb.block b hl
theorem TkS.start (w : World) (B H : Nat) (hB : B ≤ H) (hH : w.heap.size = H) : TkS B (w.alloc (.cells #[] 36)) (.slice (some ⟨H, 0, none⟩) 0 0) [] (fun _ => 0) :=
  ⟨ownsRow_newZ w _ 5 B H hB hH, fun k h => absurd h (by simp)⟩
/-- The token that has been read lies in its box P. -/
structure LexC (B : Nat) (w : World) (s : List UInt8) (i : Nat) (l : List Tok) (q : Nat → Nat) (sv : Value) (P : Nat) (v6 v10 : Value) (wx : World) (x : Tok) (j : Nat) (q0 : Nat) : Prop where
  tok : tokF s i = .inr (x, j)
  v10e : v10 = .int .i64 (j : Int)
  v6e : v6 = .int .i64 ((numN (l ++ [x]) (l.length + 1) : Nat) : Int)
  below : Below B w wx
  toks : TkS B wx sv l q
  box : wx.heap[P]? = some (.cells (tkC 0 (l ++ [x]) (fun k => if k = l.length then q0 else q k) l.length).toArray 36 (0, 0))
  set : x.kind = 0 → B ≤ q0 ∧ sv.ownBlock ≠ some q0 ∧ BRow wx q0 x.set
theorem tkC_end (l : List Tok) (x : Tok) (q : Nat → Nat) (q0 : Nat) : tkC 0 (l ++ [x]) (fun k => if k = l.length then q0 else q k) l.length = [.int .u8 (kB x.kind), .int .i64 (x.pos : Int), setV x q0, .int .i64 (if x.kind = 1 then ((numN l l.length + 1 : Nat) : Int) else x.mn), .int .i64 x.mx] := by
  unfold tkC mS
  rw [kAt_end, getD_end]
  simp only [if_true]
  by_cases h : x.kind = 1
  · rw [if_pos h, if_pos h]
    have : 0 + numN (l ++ [x]) (l.length + 1) = numN l l.length + 1 := by
      show 0 + (numN (l ++ [x]) l.length + _) = _
      rw [numN_app _ (Nat.le_refl _), kAt_end, if_pos h]; omega
    rw [this]
  · rw [if_neg h, if_neg h]
theorem numN_end (l : List Tok) (x : Tok) : numN (l ++ [x]) (l.length + 1) = numN l l.length + (if x.kind = 1 then 1 else 0) := by
  show numN (l ++ [x]) l.length + _ = _
  rw [numN_app _ (Nat.le_refl _), kAt_end]
/-- .. and is laid behind the others. -/
theorem TkS.more {B : Nat} {W w' : World} {sv : Value} {l : List Tok} {q : Nat → Nat} {x : Tok} {q0 g' cap' : Nat} (h : TkS B W sv l q) (hs : x.kind = 0 → B ≤ q0 ∧ sv.ownBlock ≠ some q0 ∧ BRow W q0 x.set)
    (ho : w'.ownsRow B 36 5 (.slice (some ⟨g', 0, none⟩) (l.length + 1) cap') (l.length + 1) (tksC l q ++ tkC 0 (l ++ [x]) (fun k => if k = l.length then q0 else q k) l.length))
    (hg : W.grownBy w' sv.ownBlock) (hat : sv.ownBlock = some g' ∨ W.heap.size ≤ g') : TkS B w' (.slice (some ⟨g', 0, none⟩) (l.length + 1) cap') (l ++ [x]) (fun k => if k = l.length then q0 else q k) := by
  have hrow : ∀ b f, sv.ownBlock ≠ some b → BRow W b f → b ≠ g' ∧ BRow w' b f := by
    intro b f hne hb
    have hlt := row_lt hb
    refine ⟨?_, ?_⟩
    · rintro rfl
      rcases hat with h | h
      · exact hne h
      · omega
    · exact (hg.block b hlt (fun e => hne e.symm)).trans hb
  refine ⟨by rw [List.length_append, show [x].length = 1 from rfl, tksC_app l x q _ (fun k hk => by rw [if_neg (by omega)])]; exact ho, ?_⟩
  intro k hk hk0
  by_cases e : k = l.length
  · subst e
    rw [kAt_end] at hk0
    obtain ⟨a, b, c⟩ := hs hk0
    obtain ⟨d, f⟩ := hrow q0 _ b c
    simp only [if_true]
    rw [getD_end]
    exact ⟨a, fun h => d (by simpa [Value.ownBlock] using h.symm), f⟩
  · have hk' : k < l.length := by simp at hk; omega
    rw [kAt_app _ hk'] at hk0
    obtain ⟨a, b, c⟩ := h.set k hk' hk0
    obtain ⟨d, f⟩ := hrow (q k) _ b c
    simp only [if_neg e]
    rw [getD_app _ hk']
    exact ⟨a, fun h => d (by simpa [Value.ownBlock] using h.symm), f⟩
/-- What l1Lex answers. -/
def LexA (w : World) (r : List Tok × Int × Nat) (e : Ending) (w' : World) : Prop := Below w.heap.size w w' ∧ ∃ sv q, e = .returned (.tuple #[sv, .int .i64 r.2.1, .int .i64 (r.2.2 : Int)]) ∧ TkS w.heap.size w' sv r.1 q
end Go.Proofs.YtgbdlgogccgciaaGreatDoor
