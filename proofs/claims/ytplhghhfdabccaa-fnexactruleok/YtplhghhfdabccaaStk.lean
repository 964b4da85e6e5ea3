import Derived.Test.YtplhghhfdabccaaJoin
import Derived.Deep.AppendLies
namespace Go.Proofs.Ytplhghhfdabccaa
open Go.RowKit

/- THE STACK OF WEIGHTS, bottom first. -/
def wnode (n : NodeD) (args : List Int) : Int :=
  if n.kind = 1 then 1
  else if n.kind = 2 ∨ n.kind = 3 then capW (args.getD 0 0 + args.getD 1 0)
  else if n.kind = 4 then capW (args.getD 0 0 * copies n.min n.max)
  else args.getD 0 0
def wstep (st : List Int) (n : NodeD) : List Int := st.take (st.length - arity n.kind) ++ [wnode n (st.drop (st.length - arity n.kind))]
def liftW : List NodeD → List Int → Option (List Int)
  | [], st => some st
  | n :: ns, st => if st.length < arity n.kind ∨ nodeB n = false then none else liftW ns (wstep st n)
def liftF (ns : List NodeD) : Option Int := match liftW ns [] with
  | some [wt] => some wt
  | _ => none

theorem liftW_drop (ns : List NodeD) (i : Nat) (hi : i < ns.length) (st : List Int) (nd : NodeD) (h : ns.getD i .zero = nd) :
    liftW (ns.drop i) st = if st.length < arity nd.kind ∨ nodeB nd = false then none else liftW (ns.drop (i + 1)) (wstep st nd) := by
  rw [List.drop_eq_getElem_cons hi]
  have : ns[i] = nd := by rw [← h]; simp [List.getD, hi]
  rw [this]
  rfl

/-- The values on a stack and their weights. -/
def Parts (N : Nat) (xs : List Value) (st : List Int) : Prop := xs.length = st.length ∧ ∀ j, j < st.length → ∃ t x, xs[j]? = some (.iface t x) ∧ IsPart N (.iface t x) (st.getD j 0)

theorem Parts.mono {N M : Nat} {xs : List Value} {st : List Int} (h : Parts N xs st) (hm : N ≤ M) : Parts M xs st :=
  ⟨h.1, fun j hj => by obtain ⟨t, x, h1, h2⟩ := h.2 j hj; exact ⟨t, x, h1, IsPart.mono N M _ _ hm h2⟩⟩
theorem Parts.push {N : Nat} {xs : List Value} {st : List Int} (h : Parts N xs st) (m : Nat) (hm : m ≤ st.length) {t : TypeId} {x : Value} {a : Int} (hp : IsPart N (.iface t x) a) : Parts N (xs.take m ++ [.iface t x]) (st.take m ++ [a]) := by
  have hl := h.1
  refine ⟨by simp [hl], fun j hj => ?_⟩
  simp only [List.length_append, List.length_take, List.length_cons, List.length_nil, Nat.min_eq_left hm] at hj
  by_cases e : j = m
  · subst e
    refine ⟨t, x, ?_, ?_⟩
    · rw [List.getElem?_append_right (by simp; omega)]; simp [hl, Nat.min_eq_left hm]
    · have : (st.take j ++ [a]).getD j 0 = a := by
        rw [List.getD_eq_getElem?_getD, List.getElem?_append_right (by simp; omega)]; simp [Nat.min_eq_left hm]
      rw [this]; exact hp
  · obtain ⟨t', x', h1, h2⟩ := h.2 j (by omega)
    refine ⟨t', x', ?_, ?_⟩
    · rw [List.getElem?_append_left (by simp [hl]; omega), List.getElem?_take, if_pos (by omega)]; exact h1
    · have : (st.take m ++ [a]).getD j 0 = st.getD j 0 := by
        rw [List.getD_eq_getElem?_getD, List.getElem?_append_left (by simp; omega), List.getElem?_take, if_pos (by omega), List.getD_eq_getElem?_getD]
      rw [this]; exact h2

end Go.Proofs.Ytplhghhfdabccaa
