import Derived.Test.YtgbdlgogccgciaaMinQ
import Derived.Test.YtgbdlgogccgciaaRunSMinM
namespace Go.Proofs.Ytgbdlgogccgciaa
open Go.RowKit
attribute [local go_sem ↓] Go.wp_at_zero Go.wp_at_succ

/-- A cell of row i of a family written. -/
theorem Fam.put {gt n : Nat} {W : World} {v : Nat → Value} {l : Nat → List Int} (h : Fam gt n W v l) {i : Nat} (hi : i < n) {g m cap : Nat} (hv : v i = .slice (some ⟨g, 0, none⟩) m cap) (hm : (l i).length = m) (j : Nat) (y : Int) : Fam gt n (W.setCell ⟨g, j, none⟩ (.int .i64 y)) v (updL l i ((l i).set j y)) := by
  refine ⟨fun k hk => ?_, h.apart⟩
  by_cases e : k = i
  · subst e
    rw [updL_same]
    have ho : W.ownsRow (gt + 1) 3 1 (.slice (some ⟨g, 0, none⟩) m cap) m ((l k).map intV) := by have := h.own k hi; unfold Owns at this; rw [hv, hm] at this; exact this
    have hs := (ho.stored j (.int .i64 y)).1
    unfold Owns
    rw [hv, List.length_set, hm, List.map_set]
    exact hs
  · rw [updL_ne _ _ e]
    refine owns_keep (h.own k hk) fun b hb => heap_setCell_other _ _ _ _ (fun e2 => ?_)
    have : (v i).ownBlock = some b := by rw [hv]; simp only [Value.ownBlock]; rw [show g = b from e2.symm]
    exact h.apart k i hk hi e b hb this
theorem row_threeD {w : World} {g : Nat} {a b c : Value} {t : TypeId} (h : w.heap[g]? = some (.cells #[a, b, c] t (0, 0))) : w.cell? ⟨g, 0, none⟩ = some a ∧ w.cell? ⟨g, 1, none⟩ = some b ∧ w.cell? ⟨g, 2, none⟩ = some c := ⟨row_cells h 0, row_cells h 1, row_cells h 2⟩
/-- All of xs get b. -/
def setAll (o : List Nat) (xs : List Nat) (b : Nat) : List Nat := xs.foldl (fun o s => o.set s b) o
theorem setAll_len (xs : List Nat) (b : Nat) : ∀ o : List Nat, (setAll o xs b).length = o.length := by
  induction xs with
  | nil => intro o; rfl
  | cons x xs ih => intro o; show (setAll (o.set x b) xs b).length = _; rw [ih]; simp
theorem setAll_get (xs : List Nat) (b : Nat) : ∀ (o : List Nat) (s : Nat), s < o.length → (setAll o xs b).getD s 0 = if s ∈ xs then b else o.getD s 0 := by
  induction xs with
  | nil => intro o s _; simp [setAll]
  | cons x xs ih =>
    intro o s hs
    show (setAll (o.set x b) xs b).getD s 0 = _
    rw [ih _ s (by simpa using hs)]
    by_cases h1 : s ∈ xs
    · rw [if_pos h1, if_pos (by simp [h1])]
    · rw [if_neg h1]
      by_cases h2 : s = x
      · subst h2
        rw [if_pos (by simp), List.getD_eq_getElem?_getD, List.getElem?_set_self hs]
        rfl
      · rw [if_neg (by simp [h1, h2]), List.getD_eq_getElem?_getD, List.getElem?_set_ne (fun e => h2 e.symm), ← List.getD_eq_getElem?_getD]
theorem setAll_snoc (o xs : List Nat) (x b : Nat) : setAll o (xs ++ [x]) b = (setAll o xs b).set x b := by simp [setAll]
theorem take_snocN {xs : List Nat} {j : Nat} (h : j < xs.length) : xs.take (j + 1) = xs.take j ++ [xs.getD j 0] := by
  rw [List.getD_eq_getElem?_getD, List.getElem?_eq_getElem h, List.take_succ_eq_append_getElem h]
  rfl
theorem intsN_set (l : List Nat) (i x : Nat) : (intsN l).set i (x : Int) = intsN (l.set i x) := by simp [intsN, List.map_set]

set_option maxRecDepth 100000 in
set_option maxHeartbeats 2000000 in
theorem label_ok {gt N p n : Nat} {mv : Value} {v : Nat → Value} {l : Nat → List Int} (i b : Nat) (o xs : List Nat) (w : World) (hF : Fam gt N w v l) (hbox : w.heap[p]? = some (.cells #[v 0, mv, v 1] 62 (0, 0))) (h0 : 0 < N) (hi : i < N) (hi0 : 0 < i) (hn : o.length = n) (hn0 : 0 < n) (hl0 : l 0 = intsN o) (hli : l i = intsN xs) (hxs : ∀ s ∈ xs, s < n) (hx0 : 0 < xs.length) (hxl : xs.length ≤ 1000000) (sv : Value) (hsv : sv = v i) :
    Calls Try.prog 40 #[.pointer (some ⟨p, 0, none⟩), sv, .int .i64 (b : Int)] w fun e w' => e = .returned (.tuple #[]) ∧ Fam gt N w' v (updL l 0 (intsN (setAll o xs b))) ∧ w.grownBy w' (v 0).ownBlock := by
  subst hsv
  have ho := hF.own i hi
  rw [hli] at ho
  obtain ⟨gs, cs, es, _, hgs, hcs⟩ := owns_some ho (by rw [intsN_len]; exact hx0)
  rw [intsN_len] at es hcs
  have ho0 := hF.own 0 h0
  rw [hl0] at ho0
  obtain ⟨go, co, e0, _, hgo, hco⟩ := owns_some ho0 (by rw [intsN_len]; omega)
  rw [intsN_len, hn] at e0
  have hne : gs ≠ go := fun e => hF.apart i 0 hi h0 (by omega) gs (by rw [es]; rfl) (by rw [e0, e]; rfl)
  rw [es]
  have HA : Hid ((v 0).ownBlock = some go) := by show _ = _; rw [e0]; rfl
  rw [e0] at hbox
  have He0 : Hid _ := e0
  have HF : Hid (Fam gt N w v (updL l 0 (intsN (setAll o (xs.take 0) b)))) := hF.congr (fun _ _ => rfl) (fun k _ => by
    by_cases e : k = 0
    · subst e; rw [updL_same, hl0]; rfl
    · rw [updL_ne _ _ e])
  have hpl := row_lt hbox
  have hpn : p ≠ go := fun e => by
    subst e
    obtain ⟨cur, hc⟩ := owns_int ho0 HA.out
    rw [hbox] at hc
    exact absurd (cells_typeM hc) (by decide)
  clear e0 es ho ho0 hF
  go_enter Try.func40, Try.ntmps40
  go_wp2
  go_loopw [10] (fun j wr => ∃ k : Nat, k ≤ xs.length ∧ j = .int .i64 k ∧ Hid (Fam gt N wr v (updL l 0 (intsN (setAll o (xs.take k) b)))) ∧ w.grownBy wr (some go))
    (fun j _ => xs.length - (intOf j).toNat)
  case atStart => exact ⟨0, Nat.zero_le _, rfl, HF.out, World.grownBy.refl _ _⟩
  case round =>
    clear HF
    obtain ⟨k, hk, rfl, HF, hg⟩ := hrel
    have hb1 := (hg.block p hpl (by simpa using hpn)).trans hbox
    by_cases hlt : k < xs.length
    · obtain ⟨q0, q1, q2⟩ := row_threeD hb1
      have c0 : wr.cell? ⟨gs, k, none⟩ = _ := (World.cell?_of_block (hg.block gs hgs (by simpa using hne))).trans (hcs k hlt)
      rw [intsN_get] at c0
      have hsl := hxs _ (getD_mem hlt)
      have hP : Hid _ := HF.out.put h0 He0.out (by rw [updL_same, intsN_len, setAll_len, hn]) (xs.getD k 0) (b : Int)
      have ho1 := HF.out.own 0 h0
      rw [updL_same] at ho1
      obtain ⟨go', co', e1, _, _, hc1⟩ := owns_some ho1 (by rw [intsN_len, setAll_len]; omega)
      rw [He0.out, intsN_len, setAll_len, hn] at e1
      cases e1
      have c1 := hc1 (xs.getD k 0) (by rw [intsN_len, setAll_len, hn]; exact hsl)
      obtain ⟨cur, hcur⟩ := owns_int ho1 HA.out
      have f1 := frozen_of_row _ _ (xs.getD k 0) _ _ hcur
      have HT : Hid _ := take_snocN hlt
      have hi1 : (k : Int) < (xs.length : Int) := by omega
      have hi2 : ((xs.getD k 0 : Nat) : Int) < (n : Int) := by omega
      generalize (intsN (setAll o (List.take k xs) b)).getD (xs.getD k 0) 0 = old at *
      generalize xs.getD k 0 = s0 at *
      clear hcur ho1 hc1
      go_wp2
      go_roundw
      case rel =>
        refine ⟨k + 1, by omega, by go_num, ?_, hg.trans (grown_putM _ _ _ _)⟩
        refine hP.out.congr (fun _ _ => rfl) (fun j _ => ?_)
        by_cases e : j = 0
        · subst e; rw [updL_same, updL_same, updL_same, HT.out, setAll_snoc, intsN_set]
        · rw [updL_ne _ _ e, updL_ne _ _ e, updL_ne _ _ e]
      case measure => simp [intOf]; omega
    · have hkk : k = xs.length := by omega
      subst hkk
      go_wp2
      go_end0
      refine ⟨rfl, ?_, by rw [HA.out]; exact hg⟩
      have := HF.out
      rw [List.take_length] at this
      exact this
end Go.Proofs.Ytgbdlgogccgciaa
namespace Go.Proofs.Ytgbdlgogccgciaa

/- BLOCKS, EVER FINER (plain mathematics): sc is where a class of bytes leads, U the classes that some byte has; of is a state's block. -/
/-- Where two states of one block part, one of the blocks that they come to is still to split by. -/
def Hop (n : Nat) (U : Nat → Prop) (sc : Nat → Nat → Nat) (of : Nat → Nat) (work : Nat → Prop) : Prop :=
  ∀ s t k, s < n → t < n → U k → of s = of t → of (sc s k) ≠ of (sc t k) → work (of (sc s k)) ∨ work (of (sc t k))
theorem Hop.cut {τ : Type} {n : Nat} {U : Nat → Prop} {sc : Nat → Nat → Nat} {of of' : Nat → Nat} {work work' : Nat → Prop} {B : Nat} {tr : Nat → τ} (h : Hop n U sc of work) (hcl : ∀ s k, s < n → U k → sc s k < n)
    (h1 : ∀ s t, s < n → t < n → of' s = of' t → of s = of t ∧ tr s = tr t) (htr : ∀ s t, s < n → t < n → tr s = tr t → ∀ k, U k → (of (sc s k) = B ↔ of (sc t k) = B))
    (h3 : ∀ s, s < n → of' s = of s ∨ work' (of' s)) (h4 : ∀ b, work b → b ≠ B → work' b) : Hop n U sc of' work' := by
  intro s t k hs ht hk e hne
  obtain ⟨e1, e2⟩ := h1 s t hs ht e
  rcases h3 (sc s k) (hcl s k hs hk) with f1 | f1
  · rcases h3 (sc t k) (hcl t k ht hk) with f2 | f2
    · have hB := htr s t hs ht e2 k hk
      rw [f1, f2] at hne ⊢
      rcases h s t k hs ht hk e1 hne with w | w
      · by_cases eb : of (sc s k) = B
        · exact absurd (eb.trans (hB.1 eb).symm) hne
        · exact .inl (h4 _ w eb)
      · by_cases eb : of (sc t k) = B
        · exact absurd ((hB.2 eb).trans eb.symm) hne
        · exact .inr (h4 _ w eb)
    · exact .inr f2
  · exact .inl f1
/-- Nothing is left to split by: the blocks are the classes of states that are alike. -/
theorem hop_done {n : Nat} {U : Nat → Prop} {st sc : Nat → Nat → Nat} {an : Nat → Int × Int} {cls : Nat → Nat} {of : Nat → Nat} {work : Nat → Prop} (h : Hop n U sc of work) (hw : ∀ b, ¬work b) (hst : ∀ s c, st s c = sc s (cls c)) (hU : ∀ c, c < 256 → U (cls c)) (hcl : ∀ s k, s < n → U k → sc s k < n)
    (han : ∀ s t, s < n → t < n → of s = of t → an s = an t) {s t : Nat} (hs : s < n) (ht : t < n) (e : of s = of t) : Alike st an s t := by
  refine alike_of (fun s t => s < n ∧ t < n ∧ of s = of t) (fun s t ⟨a, b, c⟩ => han s t a b c) (fun s t c ⟨a, b, k⟩ hc => ?_) ⟨hs, ht, e⟩
  rw [hst, hst]
  refine ⟨hcl s _ a (hU c hc), hcl t _ b (hU c hc), ?_⟩
  by_cases hne : of (sc s (cls c)) = of (sc t (cls c))
  · exact hne
  · rcases h s t (cls c) a b (hU c hc) k hne with w | w
    · exact absurd w (hw _)
    · exact absurd w (hw _)
/-- Alike by the classes that some byte has. -/
theorem alike_class {U : Nat → Prop} {st sc : Nat → Nat → Nat} {an : Nat → Int × Int} {cls : Nat → Nat} (hst : ∀ s c, st s c = sc s (cls c)) (hU : ∀ k, U k → ∃ c, c < 256 ∧ cls c = k) {s t k : Nat} (h : Alike st an s t) (hk : U k) : Alike st an (sc s k) (sc t k) := by
  obtain ⟨c, hc, e⟩ := hU k hk
  have := h.step hc
  rw [hst, hst, e] at this
  exact this

/-- Behind some groups' splitting: of is finer than of0 by exactly these groups, what isn't a block as it was is new and to split by. -/
structure Split (n : Nat) (of0 of : Nat → Nat) (work0 work : Nat → Prop) (gs : List (List Nat)) : Prop where
  iff : ∀ s t, s < n → t < n → (of s = of t ↔ of0 s = of0 t ∧ ∀ g ∈ gs, (s ∈ g ↔ t ∈ g))
  num : ∀ s, s < n → of s = of0 s ∨ work (of s)
  up : ∀ b, work0 b → work b
theorem Split.refl (n : Nat) (of : Nat → Nat) (work : Nat → Prop) : Split n of of work work [] :=
  ⟨fun s t _ _ => by simp, fun _ _ => .inl rfl, fun _ h => h⟩
/-- One group more. -/
theorem Split.next {n : Nat} {of0 of of' : Nat → Nat} {work0 work work' : Nat → Prop} {gs : List (List Nat)} {g : List Nat} (h : Split n of0 of work0 work gs) (h1 : ∀ s t, s < n → t < n → (of' s = of' t ↔ of s = of t ∧ (s ∈ g ↔ t ∈ g))) (h2 : ∀ s, s < n → of' s = of s ∨ work' (of' s)) (h3 : ∀ b, work b → work' b) : Split n of0 of' work0 work' (gs ++ [g]) := by
  refine ⟨fun s t hs ht => ?_, fun s hs => ?_, fun b hb => h3 b (h.up b hb)⟩
  · rw [h1 s t hs ht, h.iff s t hs ht]
    constructor
    · rintro ⟨⟨a, b⟩, c⟩
      exact ⟨a, fun x hx => by rcases List.mem_append.1 hx with hx | hx; exact b x hx; simp at hx; subst hx; exact c⟩
    · rintro ⟨a, b⟩
      exact ⟨⟨a, fun x hx => b x (List.mem_append.2 (.inl hx))⟩, b g (by simp)⟩
  · rcases h2 s hs with e | e
    · rcases h.num s hs with k | k
      · exact .inl (e.trans k)
      · exact .inr (by rw [e]; exact h3 _ k)
    · exact .inr e
/-- All states of a group that is still to come lie in one block. -/
theorem Split.same {n : Nat} {of0 of : Nat → Nat} {work0 work : Nat → Prop} {gs : List (List Nat)} (h : Split n of0 of work0 work gs) {s t : Nat} (hs : s < n) (ht : t < n) (e : of0 s = of0 t) (hg : ∀ g ∈ gs, (s ∈ g ↔ t ∈ g)) : of s = of t := (h.iff s t hs ht).2 ⟨e, hg⟩

/-- A group parted from the rest of its block: either side may get the new number. -/
def partOf (of : Nat → Nat) (X : List Nat) (m : Nat) (s : Nat) : Nat := if s ∈ X then m else of s
theorem part_iff {n m : Nat} {of : Nat → Nat} {g X : List Nat} {b : Nat} (hm : ∀ s, s < n → of s < m) (hg : ∀ s ∈ g, of s = b) (hX : (∀ s, s < n → (s ∈ X ↔ s ∈ g)) ∨ (∀ s, s < n → (s ∈ X ↔ of s = b ∧ s ∉ g))) {s t : Nat} (hs : s < n) (ht : t < n) :
    partOf of X m s = partOf of X m t ↔ of s = of t ∧ (s ∈ g ↔ t ∈ g) := by
  have a := hm s hs
  have c := hm t ht
  unfold partOf
  rcases hX with hX | hX
  · have hs1 := hX s hs
    have ht1 := hX t ht
    by_cases h1 : s ∈ X <;> by_cases h2 : t ∈ X
    · rw [if_pos h1, if_pos h2]
      have k1 := hs1.1 h1
      have k2 := ht1.1 h2
      exact ⟨fun _ => ⟨(hg s k1).trans (hg t k2).symm, ⟨fun _ => k2, fun _ => k1⟩⟩, fun _ => rfl⟩
    · rw [if_pos h1, if_neg h2]
      exact ⟨fun e => by omega, fun ⟨_, e⟩ => absurd (ht1.2 (e.1 (hs1.1 h1))) h2⟩
    · rw [if_neg h1, if_pos h2]
      exact ⟨fun e => by omega, fun ⟨_, e⟩ => absurd (hs1.2 (e.2 (ht1.1 h2))) h1⟩
    · rw [if_neg h1, if_neg h2]
      exact ⟨fun e => ⟨e, ⟨fun k => absurd (hs1.2 k) h1, fun k => absurd (ht1.2 k) h2⟩⟩, fun e => e.1⟩
  · have hs1 := hX s hs
    have ht1 := hX t ht
    by_cases h1 : s ∈ X <;> by_cases h2 : t ∈ X
    · rw [if_pos h1, if_pos h2]
      have k1 := hs1.1 h1
      have k2 := ht1.1 h2
      exact ⟨fun _ => ⟨k1.1.trans k2.1.symm, ⟨fun k => absurd k k1.2, fun k => absurd k k2.2⟩⟩, fun _ => rfl⟩
    · rw [if_pos h1, if_neg h2]
      have k1 := hs1.1 h1
      exact ⟨fun e => by omega, fun ⟨e, f⟩ => absurd (ht1.2 ⟨e ▸ k1.1, fun k => k1.2 (f.2 k)⟩) h2⟩
    · rw [if_neg h1, if_pos h2]
      have k2 := ht1.1 h2
      exact ⟨fun e => by omega, fun ⟨e, f⟩ => absurd (hs1.2 ⟨e.trans k2.1, fun k => k2.2 (f.1 k)⟩) h1⟩
    · rw [if_neg h1, if_neg h2]
      refine ⟨fun e => ⟨e, ⟨fun k => ?_, fun k => ?_⟩⟩, fun e => e.1⟩
      · by_cases k2 : t ∈ g
        · exact k2
        · exact absurd (ht1.2 ⟨e ▸ hg s k, k2⟩) h2
      · by_cases k2 : s ∈ g
        · exact k2
        · exact absurd (hs1.2 ⟨e.trans (hg t k), k2⟩) h1
end Go.Proofs.Ytgbdlgogccgciaa
