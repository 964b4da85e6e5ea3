import Derived.Test.YtplhghhfdabccaaGen
namespace Go.Proofs.Ytplhghhfdabccaa
open Go.RowKit

/-- 'append(s, x, y)', one cell each, onto a row of the call's own. -/
theorem wpList_append_two {P : Program} {ops : Array Oper} {rest : List Oper} {o : Oper} {a : Act} {Q : Exit → Act → World → Prop} (w : World) (H : Nat) (hH : w.heap.size = H) (hgd : o.guard = none) (s x : Operand) (t : TypeId)
    (ho : o.op = .call { callee := .builtin .append, args := #[s, x], argTypes := #[t, t] })
    (base : Nat) (e : TypeId) (i : TypeInfo) (z : Value) (bytes : Nat) (ht : P.underlying t = some (.slice e)) (hi : P.info? e = some i) (hz : i.zero = some z)
    (hsize : i.size = 1) (hby : i.bytes = bytes) (hzs : z.cells.size = 1)
    (g cap n : Nat) (xs : List Value) (u v : Value) (hs : a.eval s = .slice (some ⟨g, 0, none⟩) n cap) (hown : w.ownsRow base e 1 (.slice (some ⟨g, 0, none⟩) n cap) n xs)
    (hx : a.eval x = .slice (some ⟨H, 0, none⟩) 2 2) (h1 : u.oneCell' = true) (h2 : v.oneCell' = true) (hn : n ≤ 2000000) (hbytes : bytes ≤ 64) (hbase : base ≤ w.heap.size)
    (h : ∀ g' cap' w', w'.ownsRow base e 1 (.slice (some ⟨g', 0, none⟩) (n + 2) cap') (n + 2) (xs ++ [u, v]) → w.grownBy w' (some g) → (g' = g ∨ g' = w.heap.size + 1) → wpList P ops Q rest (a.put o.dst (.slice (some ⟨g', 0, none⟩) (n + 2) cap')) w') :
    wpList P ops Q (o :: rest) a (w.alloc (.cells #[u, v] e)) := by
  subst hH
  refine wpList_append_lies _ hgd s x t ho base e i z 1 bytes ht hi hz hsize hby hzs (by omega) _ n xs hs (hown.alloc _) ⟨w.heap.size, 0, none⟩ 2 2 [u, v] hx rfl ?_ ?_ (by omega) (by unfold maxLen; omega) ?_ (by simp; omega) (w.heap.size + 1) (by simp) ?_
  · intro j v' hv
    match j, hv with
    | 0, hv => simp at hv; subst hv; simp [Addr.add]
    | 1, hv => simp at hv; subst hv; simp [Addr.add]
  · intro v' hv; simp at hv; rcases hv with rfl | rfl <;> assumption
  · have : (n + 2) * bytes ≤ 2000002 * 64 := Nat.mul_le_mul (by omega) hbytes
    omega
  · intro g' cap' w' ho2 hgr hat hlt
    refine h g' cap' w' ho2 ⟨hgr.os, hgr.tape, hgr.output, Nat.le_trans (by simp) hgr.size, fun k hk hne => ?_⟩ ?_
    · rw [hgr.block k (by simp; omega) (by simpa [Value.ownBlock] using hne), Below.heap_alloc _ _ _ hk]
    · rcases hat with hat | hat
      · left; simp [Value.ownBlock] at hat; exact hat.symm
      · exact .inr hat
end Go.Proofs.Ytplhghhfdabccaa
