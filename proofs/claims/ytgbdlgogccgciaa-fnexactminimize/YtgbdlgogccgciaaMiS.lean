import Derived.Test.YtgbdlgogccgciaaMiR
import Derived.Test.YtgbdlgogccgciaaMiL
namespace Go.Proofs.Ytgbdlgogccgciaa
open Go.RowKit

/- A ROUND OF alikeStates (mathematics): ps the arrows that have been seen, xs the states that they come from, T s the four words of state s. -/
structure TrI (n : Nat) (ps : List (Nat × Nat)) (xs : List Nat) (T : Nat → Nat → Nat) : Prop where
  nd : xs.Nodup
  mem : ∀ s, s ∈ xs ↔ ∃ c, (s, c) ∈ ps
  bit : ∀ s c, c < 256 → bitW (T s) c = decide ((s, c) ∈ ps)
  lt : ∀ s i, T s i < 18446744073709551616
  ok : ∀ x ∈ ps, x.1 < n ∧ x.2 < 256
theorem TrI.start (n : Nat) : TrI n [] [] (fun _ _ => 0) :=
  ⟨List.nodup_nil, fun s => by simp, fun s c _ => by simp [bitW], fun _ _ => by omega, fun _ h => by cases h⟩
def addX (xs : List Nat) (f : Nat) : List Nat := if f ∈ xs then xs else xs ++ [f]
def addTs (T : Nat → Nat → Nat) (f c : Nat) : Nat → Nat → Nat := fun s => if s = f then addW (T f) c else T s
theorem TrI.add {n : Nat} {ps : List (Nat × Nat)} {xs : List Nat} {T : Nat → Nat → Nat} (h : TrI n ps xs T) {f c : Nat} (hf : f < n) (hc : c < 256) : TrI n (ps ++ [(f, c)]) (addX xs f) (addTs T f c) := by
  refine ⟨?_, fun s => ?_, fun s e he => ?_, fun s i => ?_, fun x hx => ?_⟩
  · unfold addX
    split
    · exact h.nd
    · rename_i k
      rw [List.nodup_append]
      exact ⟨h.nd, by simp, fun a ha b hb e => by simp at hb; subst hb; exact k (e ▸ ha)⟩
  · unfold addX
    have hm := h.mem s
    simp only [List.mem_append, List.mem_singleton, Prod.mk.injEq]
    split
    · rename_i k
      rw [hm]
      constructor
      · rintro ⟨c', h'⟩; exact ⟨c', .inl h'⟩
      · rintro ⟨c', h' | ⟨rfl, rfl⟩⟩
        · exact ⟨c', h'⟩
        · exact hm.1 k
    · rw [List.mem_append, hm, List.mem_singleton]
      constructor
      · rintro (⟨c', h'⟩ | rfl)
        · exact ⟨c', .inl h'⟩
        · exact ⟨c, .inr ⟨rfl, rfl⟩⟩
      · rintro ⟨c', h' | ⟨rfl, rfl⟩⟩
        · exact .inl ⟨c', h'⟩
        · exact .inr rfl
  · unfold addTs
    by_cases e1 : s = f
    · subst e1
      rw [if_pos rfl, addW_bit, h.bit s e he]
      by_cases e2 : e = c
      · subst e2; simp
      · simp [e2]
    · rw [if_neg e1, h.bit s e he]
      simp [e1]
  · unfold addTs
    split
    · exact addW_lt (h.lt f) c i
    · exact h.lt s i
  · rcases List.mem_append.1 hx with k | k
    · exact h.ok x k
    · simp at k; subst k; exact ⟨hf, hc⟩
theorem TrI.zero {n : Nat} {ps : List (Nat × Nat)} {xs : List Nat} {T : Nat → Nat → Nat} (h : TrI n ps xs T) (s : Nat) : trW (T s) = kz ↔ s ∉ xs := by
  have hk : trW (fun _ => 0) = kz := rfl
  have e1 : trW (T s) = kz ↔ (trW (T s)).2 = (trW (fun _ => 0)).2 := by
    rw [← hk]
    constructor
    · intro e; rw [e]
    · intro e; exact Prod.ext rfl e
  rw [e1, trW_eq (h.lt s) (fun _ => by omega)]
  constructor
  · intro hb hx
    obtain ⟨c, hc⟩ := (h.mem s).1 hx
    have hc2 := (h.ok _ hc).2
    have := hb c hc2
    rw [h.bit s c hc2, decide_eq_true hc] at this
    simp [bitW] at this
  · intro hx c hc
    rw [h.bit s c hc, decide_eq_false (fun k => hx ((h.mem s).2 ⟨c, k⟩))]
    simp [bitW]
theorem TrI.len {n : Nat} {ps : List (Nat × Nat)} {xs : List Nat} {T : Nat → Nat → Nat} (h : TrI n ps xs T) : xs.length ≤ n := nodup_le n xs h.nd (fun s hs => by obtain ⟨c, hc⟩ := (h.mem s).1 hs; exact (h.ok _ hc).1)
theorem TrI.xlt {n : Nat} {ps : List (Nat × Nat)} {xs : List Nat} {T : Nat → Nat → Nat} (h : TrI n ps xs T) : ∀ s ∈ xs, s < n := fun s hs => by obtain ⟨c, hc⟩ := (h.mem s).1 hs; exact (h.ok _ hc).1
/-- All arrows into the block. -/
theorem TrI.spl {d : DfaD} (hf : DfaFine d) {o wk : List Nat} {m : Nat} {mem : Nat → List Nat} (hP : PtM d.tag.length m o wk mem) {b : Nat} (hb : b < m) {A : Nat → List (Nat × Nat)} (hA : ArI d A d.tag.length 0) {xs : List Nat} {T : Nat → Nat → Nat} (h : TrI d.tag.length ((mem b).flatMap A) xs T) : SplB d o b xs (fun s => trW (T s)) := by
  have key : ∀ s c, s < d.tag.length → ((s, c) ∈ (mem b).flatMap A ↔ c ∈ usedF d (wdN d) ∧ o.getD (nxN d s c) 0 = b) := fun s c hs => by
    rw [List.mem_flatMap]
    constructor
    · rintro ⟨t, h1, h2⟩
      obtain ⟨_, h3, h4⟩ := (hA.mem t _).1 h2
      dsimp only at h3 h4
      refine ⟨h3, ?_⟩
      rw [h4]
      exact ((hP.mm b hb t).1 h1).2
    · rintro ⟨h1, h2⟩
      exact ⟨nxN d s c, (hP.mm b hb _).2 ⟨(hf.nx hs (usedF_mem.1 h1).1).2, h2⟩, (hA.mem _ _).2 ⟨.inl hs, h1, rfl⟩⟩
  refine ⟨h.nd, h.xlt, fun s hs => ?_, fun s t hs ht => ?_⟩
  · rw [h.mem s]
    constructor
    · rintro ⟨c, hc⟩
      obtain ⟨h1, h2⟩ := (key s c hs).1 hc
      exact ⟨c, h1, h2⟩
    · rintro ⟨c, h1, h2⟩
      exact ⟨c, (key s c hs).2 ⟨h1, h2⟩⟩
  · rw [trW_eq (h.lt s) (h.lt t)]
    constructor
    · intro hb2 c hc
      have hc2 : c < 256 := by have := (usedF_mem.1 hc).1; have := hf.wd.2.2; omega
      have := hb2 c hc2
      rw [h.bit s c hc2, h.bit t c hc2, decide_eq_decide, key s c hs, key t c ht] at this
      exact ⟨fun e => (this.1 ⟨hc, e⟩).2, fun e => (this.2 ⟨hc, e⟩).2⟩
    · intro h2 c hc
      rw [h.bit s c hc, h.bit t c hc, decide_eq_decide, key s c hs, key t c ht]
      exact ⟨fun ⟨a, e⟩ => ⟨a, (h2 c a).1 e⟩, fun ⟨a, e⟩ => ⟨a, (h2 c a).2 e⟩⟩

/- ITS STATE. -/
theorem ArS.keepT {B gI n : Nat} {W W' : World} {v : Nat → Value} {A : Nat → List (Nat × Nat)} (S : ArS B W gI n v A) (h1 : ∀ (b : Nat) (cs : Array Value), W.heap[b]? = some (.cells cs 65 (0, 0)) → W'.heap[b]? = some (.cells cs 65 (0, 0))) (h2 : ∀ (b : Nat) (cs : Array Value), W.heap[b]? = some (.cells cs 63 (0, 0)) → W'.heap[b]? = some (.cells cs 63 (0, 0))) : ArS B W' gI n v A :=
  ⟨own_keepM S.out h2, fun s hs => own_keepM (S.rows s hs) h1, S.apart⟩
/-- A block of a type that is no arrow's has turned. -/
theorem ArS.far {B gI n : Nat} {W W' : World} {v : Nat → Value} {A : Nat → List (Nat × Nat)} (S : ArS B W gI n v A) {g : Option Nat} (hg : W.grownBy W' g) (he : ∀ q, g = some q → ∃ (cs : Array Value) (e : TypeId), W.heap[q]? = some (.cells cs e (0, 0)) ∧ e ≠ 65 ∧ e ≠ 63) : ArS B W' gI n v A := by
  refine S.keepT (fun b cs hb => (hg.block b (row_lt hb) (fun e => ?_)).trans hb) (fun b cs hb => (hg.block b (row_lt hb) (fun e => ?_)).trans hb)
  · obtain ⟨cs', e', h1, h2, _⟩ := he b e.symm
    rw [h1] at hb
    exact h2 (cells_typeM hb)
  · obtain ⟨cs', e', h1, _, h2⟩ := he b e.symm
    rw [h1] at hb
    exact h2 (cells_typeM hb)
theorem ArS.kpp {B gI n g : Nat} {W W' : World} {v : Nat → Value} {A : Nat → List (Nat × Nat)} (S : ArS B W gI n v A) (hk : KpP g W W') (hg : ∃ cs, W.heap[g]? = some (.cells cs 22 (0, 0))) : ArS B W' gI n v A := by
  obtain ⟨c0, h0⟩ := hg
  refine S.keepT (fun b cs hb => hk b cs _ (by decide) (by decide) (fun e => ?_) hb) (fun b cs hb => hk b cs _ (by decide) (by decide) (fun e => ?_) hb)
  · rw [e, h0] at hb; exact absurd (cells_typeM hb) (by decide)
  · rw [e, h0] at hb; exact absurd (cells_typeM hb) (by decide)
/-- Row N of the family is touched. -/
structure AlS (w : World) (gt p m gmv cm : Nat) (mi : Nat → Nat) (v : Nat → Value) (l : Nat → List Int) (N : Nat) (o wk : List Nat) (mem : Nat → List Nat) (B gI n : Nat) (vA : Nat → Value) (A : Nat → List (Nat × Nat)) (gT : Nat) (T : Nat → Nat → Nat) (W : World) : Prop where
  pt : PtS gt W p (.slice (some ⟨gmv, 0, none⟩) m cm) m mi v l (N + 1) o wk mem
  low : ∀ x, x < m → mi x < N
  two : 2 ≤ N
  ar : ArS B W gI n vA A
  tr : W.heap[gT]? = some (.cells (trRow n (fun s => trW (T s))) 68 (0, 0))
  be : Below w.heap.size w W
  ws : w.heap.size ≤ gt
  tw : w.heap.size ≤ gT
section
variable {w : World} {gt p m gmv cm : Nat} {mi : Nat → Nat} {v : Nat → Value} {l : Nat → List Int} {N : Nat} {o wk : List Nat} {mem : Nat → List Nat} {B gI n : Nat} {vA : Nat → Value} {A : Nat → List (Nat × Nat)} {gT : Nat} {T : Nat → Nat → Nat} {W W' : World}
theorem AlS.on (h : AlS w gt p m gmv cm mi v l N o wk mem B gI n vA A gT T W) (hb : Below W.heap.size W W') : AlS w gt p m gmv cm mi v l N o wk mem B gI n vA A gT T W' :=
  ⟨h.pt.on hb, h.low, h.two, h.ar.below hb, row_below h.tr hb, h.be.trans (hb.mono h.be.size), h.ws, h.tw⟩
theorem AlS.touch (h : AlS w gt p m gmv cm mi v l N o wk mem B gI n vA A gT T W) {u : Value} {ys : List Int} (hF : Fam gt (N + 1) W' (upd v N u) (updL l N ys)) (hg : W.grownBy W' (v N).ownBlock) : AlS w gt p m gmv cm mi (upd v N u) (updL l N ys) N o wk mem B gI n vA A gT T W' := by
  have h2 := h.two
  refine ⟨h.pt.row (by omega) h2 (fun x hx => by have := h.low x hx; omega) hF hg, h.low, h2, h.ar.far hg (fun q e => ?_), h.pt.fam.others (i := N) (by omega) hg (by decide) h.tr, h.be.grown hg h.be.size (fun b hb => ?_), h.ws, h.tw⟩
  · obtain ⟨cs, hc⟩ := owns_int (h.pt.fam.own N (by omega)) e
    exact ⟨cs, _, hc, by decide, by decide⟩
  · have := (owns_block (h.pt.fam.own N (by omega)) hb).1
    have := h.ws
    omega
theorem AlS.trait (h : AlS w gt p m gmv cm mi v l N o wk mem B gI n vA A gT T W) {T' : Nat → Nat → Nat} (hg : W.grownBy W' (some gT)) (ht : W'.heap[gT]? = some (.cells (trRow n (fun s => trW (T' s))) 68 (0, 0))) : AlS w gt p m gmv cm mi v l N o wk mem B gI n vA A gT T' W' := by
  refine ⟨h.pt.far hg (fun cs e => absurd (cells_typeM (h.tr.symm.trans e)) (by decide)) (fun cs e => absurd (cells_typeM (h.tr.symm.trans e)) (by decide)) (fun e => ?_), h.low, h.two, h.ar.far hg (fun q e => ?_), ht, h.be.grown hg h.be.size (fun b hb => by cases hb; exact h.tw), h.ws, h.tw⟩
  · simp [Value.ownBlock] at e
    obtain ⟨cur, hc⟩ := own_slices h.pt.out
    rw [e, h.tr] at hc
    exact absurd (cells_typeM hc) (by decide)
  · cases e
    exact ⟨_, _, h.tr, by decide, by decide⟩
theorem AlS.mark (h : AlS w gt p m gmv cm mi v l N o wk mem B gI n vA A gT T W) {f c x : Nat} (hf : f < n) (hc : c < 256) (hx : x = T f (c / 64) ||| 2 ^ (c % 64)) : AlS w gt p m gmv cm mi v l N o wk mem B gI n vA A gT (addTs T f c) (W.setCell ⟨gT, f * 5 + (c / 64 + 1), none⟩ (.int .u64 (x : Int))) := by
  refine h.trait (grown_putM _ _ _ _) ?_
  have := set1_heap h.tr hf (j := c / 64) (by omega) (T f) rfl x
  rw [this]
  congr 3
  funext s
  unfold updT addTs
  by_cases e : s = f
  · subst e
    rw [if_pos rfl, if_pos rfl]
    congr 1
    funext i
    unfold addW
    rw [hx]
  · rw [if_neg e, if_neg e]
end
end Go.Proofs.Ytgbdlgogccgciaa
