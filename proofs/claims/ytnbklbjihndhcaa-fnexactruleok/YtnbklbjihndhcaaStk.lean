import Derived.Test.YtnbklbjihndhcaaJoin
import Derived.Deep.AppendLies
namespace Go.Proofs.Ytnbklbjihndhcaa
open Go.RowKit

/- THE STACK OF WEIGHTS, bottom first. -/
def wnode (n : NodeD) (args : List Int) : Int :=
  if n.kind = 1 then 1
  else if n.kind = 2 ∨ n.kind = 3 then capW (args.getD 0 0 + args.getD 1 0)
  else if n.kind = 4 then capW (args.getD 0 0 * copies n.min n.max)
  else args.getD 0 0
def wstep (st : List Int) (n : NodeD) : List Int := st.take (st.length - arity n.kind) ++ [wnode n (st.drop (st.length - arity n.kind))]
def liftW : List NodeD → List Int → Option (List Int)
  | [], st => some st
  | n :: ns, st => if st.length < arity n.kind ∨ nodeB n = false then none else liftW ns (wstep st n)
def liftF (ns : List NodeD) : Option Int := match liftW ns [] with
  | some [wt] => some wt
  | _ => none

theorem liftW_drop (ns : List NodeD) (i : Nat) (hi : i < ns.length) (st : List Int) (nd : NodeD) (h : ns.getD i .zero = nd) :
    liftW (ns.drop i) st = if st.length < arity nd.kind ∨ nodeB nd = false then none else liftW (ns.drop (i + 1)) (wstep st nd) := by
  rw [List.drop_eq_getElem_cons hi]
  have : ns[i] = nd := by rw [← h]; simp [List.getD, hi]
  rw [this]
  rfl

/-- The values on a stack and their weights. -/
def Parts (N : Nat) (xs : List Value) (st : List Int) : Prop := xs.length = st.length ∧ ∀ j, j < st.length → ∃ t x, xs[j]? = some (.iface t x) ∧ IsPart N (.iface t x) (st.getD j 0)

theorem Parts.mono {N M : Nat} {xs : List Value} {st : List Int} (h : Parts N xs st) (hm : N ≤ M) : Parts M xs st :=
  ⟨h.1, fun j hj => by obtain ⟨t, x, h1, h2⟩ := h.2 j hj; exact ⟨t, x, h1, IsPart.mono N M _ _ hm h2⟩⟩
theorem Parts.push {N : Nat} {xs : List Value} {st : List Int} (h : Parts N xs st) (m : Nat) (hm : m ≤ st.length) {t : TypeId} {x : Value} {a : Int} (hp : IsPart N (.iface t x) a) : Parts N (xs.take m ++ [.iface t x]) (st.take m ++ [a]) := by
  have hl := h.1
  refine ⟨by simp [hl], fun j hj => ?_⟩
  simp only [List.length_append, List.length_take, List.length_cons, List.length_nil, Nat.min_eq_left hm] at hj
  by_cases e : j = m
  · subst e
    refine ⟨t, x, ?_, ?_⟩
    · rw [List.getElem?_append_right (by simp; omega)]; simp [hl, Nat.min_eq_left hm]
    · have : (st.take j ++ [a]).getD j 0 = a := by
        rw [List.getD_eq_getElem?_getD, List.getElem?_append_right (by simp; omega)]; simp [Nat.min_eq_left hm]
      rw [this]; exact hp
  · obtain ⟨t', x', h1, h2⟩ := h.2 j (by omega)
    refine ⟨t', x', ?_, ?_⟩
    · rw [List.getElem?_append_left (by simp [hl]; omega), List.getElem?_take, if_pos (by omega)]; exact h1
    · have : (st.take m ++ [a]).getD j 0 = st.getD j 0 := by
        rw [List.getD_eq_getElem?_getD, List.getElem?_append_left (by simp; omega), List.getElem?_take, if_pos (by omega), List.getD_eq_getElem?_getD]
      rw [this]; exact h2

/-- A row cut at its end. -/
theorem ownsRow_take {w : World} {base : Nat} {e : TypeId} {g cap n m : Nat} {xs : List Value} (h : w.ownsRow base e 1 (.slice (some ⟨g, 0, none⟩) n cap) n xs) (hm : m ≤ n) :
    w.ownsRow base e 1 (.slice (some ⟨g, 0, none⟩) m cap) m (xs.take m) := by
  obtain ⟨h1, h2⟩ := h
  rcases h2 with ⟨h0, _⟩ | ⟨g', cap', cur, hv, hg, hh, hn, hcap, hsz, htake⟩
  · cases h0
  · cases hv
    refine ⟨by simp at h1 ⊢; omega, .inr ⟨g, cap, cur, rfl, hg, hh, by omega, hcap, hsz, ?_⟩⟩
    rw [← htake, List.take_take]
    congr 1
    omega

/-- A row that has just been laid, empty. -/
theorem ownsRow_new (w : World) (e : TypeId) : (w.alloc (.cells #[] e)).ownsRow w.heap.size e 1 (.slice (some ⟨w.heap.size, 0, none⟩) 0 0) 0 [] :=
  ⟨rfl, .inr ⟨w.heap.size, 0, #[], rfl, Nat.le_refl _, heap_alloc_new _ _, Nat.le_refl _, Nat.zero_le _, rfl, rfl⟩⟩

theorem own_form {w : World} {base : Nat} {e : TypeId} {g cap n : Nat} {xs : List Value} (h : w.ownsRow base e 1 (.slice (some ⟨g, 0, none⟩) n cap) n xs) : base ≤ g ∧ g < w.heap.size ∧ n ≤ cap ∧ cap ≤ maxLen := by
  obtain ⟨h1, h2⟩ := h
  rcases h2 with ⟨h0, _⟩ | ⟨g', cap', cur, hv, hg, hh, hn, hcap, hsz, htake⟩
  · cases h0
  · cases hv
    exact ⟨hg, (Array.getElem?_eq_some_iff.1 hh).1, hn, hcap⟩

/-- 'append(s, x)', one cell, onto a row of the call's own: where the new row lies. -/
theorem wpList_append_one {P : Program} {ops : Array Oper} {rest : List Oper} {o : Oper} {a : Act} {Q : Exit → Act → World → Prop} (w : World) (hgd : o.guard = none) (s x : Operand) (t : TypeId)
    (ho : o.op = .call { callee := .builtin .append, args := #[s, x], argTypes := #[t, t] })
    (base : Nat) (e : TypeId) (i : TypeInfo) (z : Value) (bytes : Nat) (ht : P.underlying t = some (.slice e)) (hi : P.info? e = some i) (hz : i.zero = some z)
    (hsize : i.size = 1) (hby : i.bytes = bytes) (hzs : z.cells.size = 1)
    (g cap n : Nat) (xs : List Value) (u : Value) (hs : a.eval s = .slice (some ⟨g, 0, none⟩) n cap) (hown : w.ownsRow base e 1 (.slice (some ⟨g, 0, none⟩) n cap) n xs)
    (hx : a.eval x = .slice (some ⟨w.heap.size, 0, none⟩) 1 1) (h1 : u.oneCell' = true) (hn : n ≤ 2000000) (hbytes : bytes ≤ 64) (hbase : base ≤ w.heap.size)
    (h : ∀ g' cap' w', w'.ownsRow base e 1 (.slice (some ⟨g', 0, none⟩) (n + 1) cap') (n + 1) (xs ++ [u]) → w.grownBy w' (some g) → (g' = g ∨ g' = w.heap.size + 1) → wpList P ops Q rest (a.put o.dst (.slice (some ⟨g', 0, none⟩) (n + 1) cap')) w') :
    wpList P ops Q (o :: rest) a (w.alloc (.cells #[u] e)) := by
  refine wpList_append_lies _ hgd s x t ho base e i z 1 bytes ht hi hz hsize hby hzs (by omega) _ n xs hs (hown.alloc _) ⟨w.heap.size, 0, none⟩ 1 1 [u] hx rfl ?_ ?_ (by omega) (by unfold maxLen; omega) ?_ (by simp; omega) (w.heap.size + 1) (by simp) ?_
  · intro j v hv
    match j, hv with
    | 0, hv => simp at hv; subst hv; simp [Addr.add]
  · intro v hv; simp at hv; subst hv; exact h1
  · have : (n + 1) * bytes ≤ 2000001 * 64 := Nat.mul_le_mul (by omega) hbytes
    omega
  · intro g' cap' w' ho2 hgr hat hlt
    refine h g' cap' w' ho2 ⟨hgr.os, hgr.tape, hgr.output, Nat.le_trans (by simp) hgr.size, fun k hk hne => ?_⟩ ?_
    · rw [hgr.block k (by simp; omega) (by simpa [Value.ownBlock] using hne), Below.heap_alloc _ _ _ hk]
    · rcases hat with hat | hat
      · left; simp [Value.ownBlock] at hat; exact hat.symm
      · exact .inr hat

end Go.Proofs.Ytnbklbjihndhcaa
