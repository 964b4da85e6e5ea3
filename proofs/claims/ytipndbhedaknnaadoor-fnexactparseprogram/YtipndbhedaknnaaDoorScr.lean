import Derived.Test.YtipndbhedaknnaaDoorWrd
namespace Go.Proofs.YtipndbhedaknnaaDoor
open Go.RowKit
attribute [local go_sem ↓] Go.wp_at_zero Go.wp_at_succ

/- SCRIPTS. -/
def evIn : List (List UInt8) → Option (Int × List UInt8)
  | [f0, f1] => if f0 = [105, 110] then (wordF f1).map (fun d => (1, d)) else none
  | _ => none
def evF (raw : List UInt8) : Option (Int × List UInt8) :=
  if raw = [116, 105, 99, 107] then some (2, []) else if raw = [101, 111, 102] then some (3, []) else evIn (cutF 32 raw)
def skipF : List UInt8 → Bool
  | [] => true
  | c :: _ => decide ((c.toNat : Int) = 35)
def scriptL (i : Nat) (evs : List (Int × List UInt8)) : List (List UInt8) → List (Int × List UInt8) × Int × Int
  | [] => (evs, 0, 0)
  | raw :: rest => if skipF raw then scriptL (i + 1) evs rest else match evF raw with
    | none => ([], 2, (i : Int) + 1)
    | some e => if evs.length = 4000 then ([], 3, (i : Int) + 1) else scriptL (i + 1) (evs ++ [e]) rest
/-- What ParseScript answers. -/
def scriptF (t : ByteArray) : List (Int × List UInt8) × Int × Int := if 20000 < t.size then ([], 1, 0) else scriptL 0 [] (cutF 10 t.data.toList)
structure ScrSt (t : ByteArray) (k : Nat) (evs : List (Int × List UInt8)) : Prop where
  eq : scriptF t = scriptL k evs ((cutF 10 t.data.toList).drop k)
  le : evs.length ≤ k
  few : evs.length ≤ 4000
theorem ScrSt.start (t : ByteArray) (h : ¬20000 < t.size) : ScrSt t 0 [] := ⟨by unfold scriptF; rw [if_neg h]; rfl, Nat.zero_le _, by simp⟩
theorem ScrSt.full {t : ByteArray} {k : Nat} {evs : List (Int × List UInt8)} (h : ScrSt t k evs) (hk : ¬k < (cutF 10 t.data.toList).length) : scriptF t = (evs, 0, 0) := by
  rw [h.eq, List.drop_eq_nil_of_le (by omega), scriptL]
theorem ScrSt.skip {t : ByteArray} {k : Nat} {evs : List (Int × List UInt8)} (h : ScrSt t k evs) (hk : k < (cutF 10 t.data.toList).length) (hs : skipF (cutF 10 t.data.toList)[k] = true) : ScrSt t (k + 1) evs := by
  refine ⟨?_, by have := h.le; omega, h.few⟩
  rw [h.eq, List.drop_eq_getElem_cons hk, scriptL, if_pos hs]
theorem ScrSt.bad {t : ByteArray} {k : Nat} {evs : List (Int × List UInt8)} (h : ScrSt t k evs) (hk : k < (cutF 10 t.data.toList).length) (hs : skipF (cutF 10 t.data.toList)[k] = false) (he : evF (cutF 10 t.data.toList)[k] = none) : scriptF t = ([], 2, (k : Int) + 1) := by
  rw [h.eq, List.drop_eq_getElem_cons hk, scriptL, if_neg (by simp [hs]), he]
theorem ScrSt.many {t : ByteArray} {k : Nat} {evs : List (Int × List UInt8)} (h : ScrSt t k evs) (hk : k < (cutF 10 t.data.toList).length) (hs : skipF (cutF 10 t.data.toList)[k] = false) {e : Int × List UInt8} (he : evF (cutF 10 t.data.toList)[k] = some e) (hm : evs.length = 4000) : scriptF t = ([], 3, (k : Int) + 1) := by
  rw [h.eq, List.drop_eq_getElem_cons hk, scriptL, if_neg (by simp [hs]), he]
  simp only
  rw [if_pos hm]
theorem ScrSt.one {t : ByteArray} {k : Nat} {evs : List (Int × List UInt8)} (h : ScrSt t k evs) (hk : k < (cutF 10 t.data.toList).length) (hs : skipF (cutF 10 t.data.toList)[k] = false) {e : Int × List UInt8} (he : evF (cutF 10 t.data.toList)[k] = some e) (hm : ¬evs.length = 4000) : ScrSt t (k + 1) (evs ++ [e]) := by
  refine ⟨?_, by have := h.le; simp; omega, by have := h.few; simp; omega⟩
  rw [h.eq, List.drop_eq_getElem_cons hk, scriptL, if_neg (by simp [hs]), he]
  simp only
  rw [if_neg hm]
theorem cutF_len (c : UInt8) (xs : List UInt8) : 1 ≤ (cutF c xs).length ∧ (cutF c xs).length ≤ xs.length + 1 := by
  induction xs with
  | nil => simp [cutF]
  | cons x xs ih =>
    unfold cutF
    split
    · simp; omega
    · split
      · simp
      · rename_i a b e
        rw [e] at ih
        simp at ih ⊢
        omega
theorem cutF_each (c : UInt8) (xs : List UInt8) : ∀ l ∈ cutF c xs, l.length ≤ xs.length := by
  induction xs with
  | nil => simp [cutF]
  | cons x xs ih =>
    unfold cutF
    split
    · intro l hl
      rcases List.mem_cons.1 hl with rfl | hl
      · simp
      · have := ih l hl; simp; omega
    · split
      · intro l hl
        simp at hl
        subst hl
        simp
      · rename_i a b e
        rw [e] at ih
        intro l hl
        rcases List.mem_cons.1 hl with rfl | hl
        · have := ih a (by simp); simp; omega
        · have := ih l (by simp [hl]); simp; omega

/-- A slice of events, the call's own: two cells each. -/
def evCells (evs : List (Int × List UInt8)) : List Value := evs.flatMap fun e => [.int .i64 e.1, strV e.2]
theorem evCells_len (evs : List (Int × List UInt8)) : (evCells evs).length = evs.length * 2 := by
  induction evs with
  | nil => rfl
  | cons a b ih => simp [evCells] at ih ⊢; omega
theorem evCells_app (a b : List (Int × List UInt8)) : evCells (a ++ b) = evCells a ++ evCells b := by simp [evCells]
def Evs (B : Nat) (w : World) (g cap : Nat) (evs : List (Int × List UInt8)) : Prop := w.ownsRow B 58 2 (.slice (some ⟨g, 0, none⟩) evs.length cap) evs.length (evCells evs)
theorem Tryd.infoEv : (Tryd.prog.info? 58).map (fun i => (i.zero, i.size, i.bytes)) = some (some (.agg #[.int .i64 0, .string ⟨#[]⟩]), 2, 24) := by kernel_rfl
theorem ownsRow_newN (w : World) (e : TypeId) (sz : Nat) : (w.alloc (.cells #[] e)).ownsRow w.heap.size e sz (.slice (some ⟨w.heap.size, 0, none⟩) 0 0) 0 [] :=
  ⟨by simp, .inr ⟨w.heap.size, 0, #[], rfl, Nat.le_refl _, heap_alloc_new _ _, Nat.le_refl _, Nat.zero_le _, by simp, by simp⟩⟩
theorem own_formN {w : World} {base : Nat} {e : TypeId} {sz g cap n : Nat} {xs : List Value} (h : w.ownsRow base e sz (.slice (some ⟨g, 0, none⟩) n cap) n xs) : base ≤ g ∧ g < w.heap.size ∧ n ≤ cap ∧ cap ≤ maxLen := by
  obtain ⟨h1, h2⟩ := h
  rcases h2 with ⟨h0, _⟩ | ⟨g', cap', cur, hv, hg, hh, hn, hcap, hsz, htake⟩
  · cases h0
  · cases hv
    exact ⟨hg, (Array.getElem?_eq_some_iff.1 hh).1, hn, hcap⟩
/-- 'append(s, x)', one element of two cells, onto a row of the call's own. -/
theorem wpList_append_pair {P : Program} {ops : Array Oper} {rest : List Oper} {o : Oper} {a : Act} {Q : Exit → Act → World → Prop} (w : World) (H : Nat) (hH : w.heap.size = H) (hgd : o.guard = none) (s x : Operand) (t : TypeId)
    (ho : o.op = .call { callee := .builtin .append, args := #[s, x], argTypes := #[t, t] })
    (base : Nat) (e : TypeId) (i : TypeInfo) (z : Value) (bytes : Nat) (ht : P.underlying t = some (.slice e)) (hi : P.info? e = some i) (hz : i.zero = some z)
    (hsize : i.size = 2) (hby : i.bytes = bytes) (hzs : z.cells.size = 2)
    (g cap n : Nat) (xs : List Value) (u v : Value) (hs : a.eval s = .slice (some ⟨g, 0, none⟩) n cap) (hown : w.ownsRow base e 2 (.slice (some ⟨g, 0, none⟩) n cap) n xs)
    (hx : a.eval x = .slice (some ⟨H, 0, none⟩) 1 1) (h1 : u.oneCell' = true) (h2 : v.oneCell' = true) (hn : n ≤ 2000000) (hbytes : bytes ≤ 64) (hbase : base ≤ w.heap.size)
    (h : ∀ g' cap' w', w'.ownsRow base e 2 (.slice (some ⟨g', 0, none⟩) (n + 1) cap') (n + 1) (xs ++ [u, v]) → w.grownBy w' (some g) → (g' = g ∨ g' = w.heap.size + 1) → wpList P ops Q rest (a.put o.dst (.slice (some ⟨g', 0, none⟩) (n + 1) cap')) w') :
    wpList P ops Q (o :: rest) a (w.alloc (.cells #[u, v] e)) := by
  subst hH
  refine wpList_append_lies _ hgd s x t ho base e i z 2 bytes ht hi hz hsize hby hzs (by omega) _ n xs hs (hown.alloc _) ⟨w.heap.size, 0, none⟩ 1 1 [u, v] hx rfl ?_ ?_ (by omega) (by unfold maxLen; omega) ?_ (by simp; omega) (w.heap.size + 1) (by simp) ?_
  · intro j y hv
    match j, hv with
    | 0, hv => simp at hv; subst hv; simp [Addr.add]
    | 1, hv => simp at hv; subst hv; simp [Addr.add]
  · intro y hv
    simp at hv
    rcases hv with rfl | rfl
    · exact h1
    · exact h2
  · have : (n + 1) * bytes ≤ 2000001 * 64 := Nat.mul_le_mul (by omega) hbytes
    omega
  · intro g' cap' w' ho2 hgr hat hlt
    refine h g' cap' w' ho2 ⟨hgr.os, hgr.tape, hgr.output, Nat.le_trans (by simp) hgr.size, fun k hk hne => ?_⟩ ?_
    · rw [hgr.block k (by simp; omega) (by simpa [Value.ownBlock] using hne), Below.heap_alloc _ _ _ hk]
    · rcases hat with hat | hat
      · left; simp [Value.ownBlock] at hat; exact hat.symm
      · exact .inr hat
end Go.Proofs.YtipndbhedaknnaaDoor
