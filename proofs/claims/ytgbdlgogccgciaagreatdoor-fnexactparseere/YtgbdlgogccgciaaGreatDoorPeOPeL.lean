import Derived.Test.YtgbdlgogccgciaaGreatDoorGenDatPeG
namespace Go.Proofs.YtgbdlgogccgciaaGreatDoor
open Go.RowKit

/- TOKENS IN ORDER: the first that stands where it may not, and what is never closed (plain mathematics). -/
def tokZ : Tok := ⟨0, 0, fun _ => false, 0, 0⟩
def kAt (l : List Tok) (k : Nat) : Nat := (l.getD k tokZ).kind
/-- How deep it is ahead of token k. -/
def depI (l : List Tok) : Nat → Int
  | 0 => 0
  | k + 1 => depI l k + (if kAt l k = 1 then 1 else if kAt l k = 2 then -1 else 0)
/-- The groups begun ahead of token k. -/
def numN (l : List Tok) : Nat → Nat
  | 0 => 0
  | k + 1 => numN l k + (if kAt l k = 1 then 1 else 0)
def prevK (l : List Tok) (k : Nat) : Nat := if k = 0 then 7 else kAt l (k - 1)
def nextK (l : List Tok) (k : Nat) : Nat := if k + 1 < l.length then kAt l (k + 1) else 7
instance opensDec (p : Nat) : Decidable (opens p) := inferInstanceAs (Decidable (_ ∨ _ ∨ _ ∨ _))
def faultF (l : List Tok) (k : Nat) : Int :=
  if kAt l k = 1 then (if 500 < numN l (k + 1) then 9 else 0)
  else if kAt l k = 2 then (if depI l k = 0 then 7 else if opens (prevK l k) then 6 else 0)
  else if kAt l k = 3 then (if opens (prevK l k) then 6 else 0)
  else if kAt l k = 4 then (if prevK l k ≠ 0 ∧ prevK l k ≠ 2 then 6 else 0)
  else if kAt l k = 5 then (if depI l k ≠ 0 ∨ (prevK l k ≠ 7 ∧ prevK l k ≠ 3) then 5 else 0)
  else if kAt l k = 6 then (if depI l k ≠ 0 ∨ (nextK l k ≠ 7 ∧ nextK l k ≠ 3) then 5 else if opens (prevK l k) then 6 else 0)
  else 0
/-- All tokens are of the seven kinds. -/
def Kinds (l : List Tok) : Prop := ∀ k, k < l.length → kAt l k < 7
/-- The tokens that are open ahead of token k. -/
def stkN (l : List Tok) : Nat → List Nat
  | 0 => []
  | k + 1 => if kAt l k = 1 then stkN l k ++ [k] else if kAt l k = 2 then (stkN l k).dropLast else stkN l k

structure StkI (l : List Tok) (n : Nat) : Prop where
  len : depI l n = ((stkN l n).length : Int)
  pt : ∀ q, q < (stkN l n).length → (stkN l n).getD q 0 < n ∧ kAt l ((stkN l n).getD q 0) = 1 ∧ depI l ((stkN l n).getD q 0) = (q : Int)
  up : ∀ q, q < (stkN l n).length → ∀ e, (stkN l n).getD q 0 < e → e ≤ n → (q : Int) + 1 ≤ depI l e
  shut : ∀ k, k < n → kAt l k = 1 → k ∉ stkN l n → ∃ e, k < e ∧ e ≤ n ∧ depI l e = depI l k
theorem getD_snoc_lt {l : List Nat} {x q : Nat} (h : q < l.length) : (l ++ [x]).getD q 0 = l.getD q 0 := by
  simp [List.getD, List.getElem?_append_left h]
theorem getD_snoc_eq (l : List Nat) (x : Nat) : (l ++ [x]).getD l.length 0 = x := by simp [List.getD]
theorem getD_dropLast {l : List Nat} {q : Nat} (h : q + 1 < l.length) : l.dropLast.getD q 0 = l.getD q 0 := by
  simp only [List.getD]
  rw [List.getElem?_dropLast, if_pos (by omega)]
theorem mem_dropLast {l : List Nat} {x : Nat} (h : x ∈ l) (hn : x ∉ l.dropLast) : l ≠ [] ∧ x = l.getD (l.length - 1) 0 := by
  have hne : l ≠ [] := by intro e; subst e; simp at h
  refine ⟨hne, ?_⟩
  have e := List.dropLast_concat_getLast hne
  rw [← e] at h
  rcases List.mem_append.1 h with h | h
  · exact absurd h hn
  · simp at h
    rw [h, List.getLast_eq_getElem, List.getD_eq_getElem?_getD, List.getElem?_eq_getElem (by have := List.length_pos_iff.2 hne; omega)]
    rfl
theorem stkI (l : List Tok) : ∀ n, (∀ k, k < n → faultF l k = 0) → StkI l n
  | 0, _ => ⟨rfl, fun q h => absurd h (by simp [stkN]), fun q h => absurd h (by simp [stkN]), fun k h => absurd h (by omega)⟩
  | n + 1, hf => by
    have I := stkI l n fun k hk => hf k (by omega)
    have hn := hf n (by omega)
    by_cases h1 : kAt l n = 1
    · have es : stkN l (n + 1) = stkN l n ++ [n] := by show (if kAt l n = 1 then _ else _) = _; rw [if_pos h1]
      have ed : depI l (n + 1) = depI l n + 1 := by show depI l n + _ = _; rw [if_pos h1]
      refine ⟨by rw [es, ed, I.len]; simp, ?_, ?_, ?_⟩
      · intro q hq
        rw [es] at hq ⊢
        by_cases e : q < (stkN l n).length
        · rw [getD_snoc_lt e]; have := I.pt q e; exact ⟨by omega, this.2⟩
        · have e2 : q = (stkN l n).length := by simp at hq; omega
          subst e2
          rw [getD_snoc_eq]
          exact ⟨by omega, h1, I.len⟩
      · intro q hq e h2 h3
        rw [es] at hq h2
        by_cases e1 : q < (stkN l n).length
        · rw [getD_snoc_lt e1] at h2
          by_cases e3 : e = n + 1
          · subst e3; rw [ed, I.len]; omega
          · exact I.up q e1 e h2 (by omega)
        · have e2 : q = (stkN l n).length := by simp at hq; omega
          subst e2
          rw [getD_snoc_eq] at h2
          have : e = n + 1 := by omega
          subst this
          rw [ed, I.len]; omega
      · intro k hk hk1 hm
        rw [es] at hm
        have hkn : k ≠ n := fun e => hm (by simp [e])
        obtain ⟨e, h2, h3, h4⟩ := I.shut k (by omega) hk1 (fun h => hm (by simp [h]))
        exact ⟨e, h2, by omega, h4⟩
    · by_cases h2 : kAt l n = 2
      · have es : stkN l (n + 1) = (stkN l n).dropLast := by show (if kAt l n = 1 then _ else if kAt l n = 2 then _ else _) = _; rw [if_neg h1, if_pos h2]
        have ed : depI l (n + 1) = depI l n - 1 := by show depI l n + _ = _; rw [if_neg h1, if_pos h2]; omega
        have hd : depI l n ≠ 0 := by
          intro hd
          unfold faultF at hn
          rw [if_neg h1, if_pos h2, if_pos hd] at hn
          omega
        have hpos : 0 < (stkN l n).length := by have := I.len; omega
        have hl : (stkN l n).dropLast.length = (stkN l n).length - 1 := by simp
        refine ⟨by rw [es, ed, I.len, hl]; omega, ?_, ?_, ?_⟩
        · intro q hq
          rw [es] at hq ⊢
          rw [getD_dropLast (by omega)]
          have := I.pt q (by omega)
          exact ⟨by omega, this.2⟩
        · intro q hq e h3 h4
          rw [es] at hq h3
          rw [getD_dropLast (by omega)] at h3
          by_cases e3 : e = n + 1
          · subst e3; rw [ed, I.len]; omega
          · exact I.up q (by omega) e h3 (by omega)
        · intro k hk hk1 hm
          rw [es] at hm
          by_cases hkn : k = n
          · subst hkn; omega
          by_cases hin : k ∈ stkN l n
          · obtain ⟨_, e⟩ := mem_dropLast hin hm
            have := I.pt ((stkN l n).length - 1) (by omega)
            rw [← e] at this
            exact ⟨n + 1, by omega, by omega, by rw [ed, I.len, this.2.2]; omega⟩
          · obtain ⟨e, h3, h4, h5⟩ := I.shut k (by omega) hk1 hin
            exact ⟨e, h3, by omega, h5⟩
      · have es : stkN l (n + 1) = stkN l n := by show (if kAt l n = 1 then _ else if kAt l n = 2 then _ else _) = _; rw [if_neg h1, if_neg h2]
        have ed : depI l (n + 1) = depI l n := by show depI l n + _ = _; rw [if_neg h1, if_neg h2]; omega
        refine ⟨by rw [es, ed, I.len], ?_, ?_, ?_⟩
        · intro q hq
          rw [es] at hq ⊢
          have := I.pt q hq
          exact ⟨by omega, this.2⟩
        · intro q hq e h3 h4
          rw [es] at hq h3
          by_cases e3 : e = n + 1
          · subst e3; rw [ed, I.len]; omega
          · exact I.up q hq e h3 (by omega)
        · intro k hk hk1 hm
          rw [es] at hm
          have hkn : k ≠ n := fun e => h1 (e ▸ hk1)
          obtain ⟨e, h3, h4, h5⟩ := I.shut k (by omega) hk1 hm
          exact ⟨e, h3, by omega, h5⟩

theorem drop_cons {l : List Tok} {k : Nat} (hk : k < l.length) : l.drop k = l.getD k tokZ :: l.drop (k + 1) := by
  rw [List.drop_eq_getElem_cons hk, List.getD_eq_getElem?_getD, List.getElem?_eq_getElem hk]; rfl
theorem headK_drop (l : List Tok) (k : Nat) : headK (l.drop (k + 1)) = nextK l k := by
  unfold nextK
  by_cases h : k + 1 < l.length
  · rw [if_pos h, drop_cons h]; rfl
  · rw [if_neg h, List.drop_eq_nil_of_le (by omega)]; rfl
/-- No fault, nothing open, and the last is no opening: the tokens are in order. -/
theorem good_of (l : List Tok) (hK : Kinds l) (hf : ∀ k, k < l.length → faultF l k = 0) (he : ¬opens (prevK l l.length)) (hd : depI l l.length = 0) :
    ∀ m k, k + m = l.length → Good (prevK l k) (depI l k).toNat (l.drop k)
  | 0, k, e => by
    have e' : k = l.length := by omega
    subst e'
    rw [List.drop_length, hd]
    exact ⟨he, rfl⟩
  | m + 1, k, e => by
    have hk : k < l.length := by omega
    have ih := good_of l hK hf he hd m (k + 1) (by omega)
    have I := stkI l k fun j hj => hf j (by omega)
    have h0 : 0 ≤ depI l k := by rw [I.len]; omega
    rw [drop_cons hk]
    have hfk := hf k hk
    have hkk := hK k hk
    have ep : prevK l (k + 1) = kAt l k := by unfold prevK; rw [if_neg (by omega)]; rfl
    rw [ep] at ih
    refine ⟨?_, ?_⟩
    · rw [headK_drop]
      show fits (prevK l k) (depI l k).toNat (kAt l k) (nextK l k)
      unfold faultF at hfk
      unfold fits
      by_cases c1 : kAt l k = 1
      · exact .inr (.inl c1)
      rw [if_neg c1] at hfk
      by_cases c2 : kAt l k = 2
      · rw [if_pos c2] at hfk
        by_cases a : depI l k = 0
        · rw [if_pos a] at hfk; exact absurd hfk (by decide)
        rw [if_neg a] at hfk
        by_cases b : opens (prevK l k)
        · rw [if_pos b] at hfk; exact absurd hfk (by decide)
        exact .inr (.inr (.inl ⟨c2, by omega, b⟩))
      rw [if_neg c2] at hfk
      by_cases c3 : kAt l k = 3
      · rw [if_pos c3] at hfk
        by_cases b : opens (prevK l k)
        · rw [if_pos b] at hfk; exact absurd hfk (by decide)
        exact .inr (.inr (.inr (.inl ⟨c3, b⟩)))
      rw [if_neg c3] at hfk
      by_cases c4 : kAt l k = 4
      · rw [if_pos c4] at hfk
        by_cases b : prevK l k ≠ 0 ∧ prevK l k ≠ 2
        · rw [if_pos b] at hfk; exact absurd hfk (by decide)
        exact .inr (.inr (.inr (.inr (.inl ⟨c4, by omega⟩))))
      rw [if_neg c4] at hfk
      by_cases c5 : kAt l k = 5
      · rw [if_pos c5] at hfk
        by_cases b : depI l k ≠ 0 ∨ (prevK l k ≠ 7 ∧ prevK l k ≠ 3)
        · rw [if_pos b] at hfk; exact absurd hfk (by decide)
        exact .inr (.inr (.inr (.inr (.inr (.inl ⟨c5, by omega, by omega⟩)))))
      rw [if_neg c5] at hfk
      by_cases c6 : kAt l k = 6
      · rw [if_pos c6] at hfk
        by_cases a : depI l k ≠ 0 ∨ (nextK l k ≠ 7 ∧ nextK l k ≠ 3)
        · rw [if_pos a] at hfk; exact absurd hfk (by decide)
        rw [if_neg a] at hfk
        by_cases b : opens (prevK l k)
        · rw [if_pos b] at hfk; exact absurd hfk (by decide)
        exact .inr (.inr (.inr (.inr (.inr (.inr ⟨c6, by omega, by omega, b⟩)))))
      · exact .inl (by omega)
    · show Good (kAt l k) (deep (depI l k).toNat (kAt l k)) (l.drop (k + 1))
      have ed : (depI l (k + 1)).toNat = deep (depI l k).toNat (kAt l k) := by
        show (depI l k + _).toNat = _
        unfold deep
        split
        · omega
        · split <;> omega
      rw [← ed]
      exact ih
theorem rule_of {l : List Tok} (hK : Kinds l) (hf : ∀ k, k < l.length → faultF l k = 0) (he : ¬opens (prevK l l.length)) (hd : depI l l.length = 0) : ∃ bs g', Rl 0 l bs g' := by
  have h := good_of l hK hf he hd l.length 0 (by omega)
  exact good_rule l.length 0 l 7 (.inl rfl) (Nat.le_refl _) h
/-- What is open at the end: the last token that opens and is never closed. -/
def Unclosed (l : List Tok) (k : Nat) : Prop := ∀ e, k < e → e ≤ l.length → depI l e ≠ depI l k
theorem last_open {l : List Tok} (hf : ∀ k, k < l.length → faultF l k = 0) (hd : 0 < depI l l.length) :
    ∃ t, stkN l l.length ≠ [] ∧ t = (stkN l l.length).getD ((stkN l l.length).length - 1) 0 ∧ t < l.length ∧ kAt l t = 1 ∧ Unclosed l t ∧ ∀ k, t < k → k < l.length → kAt l k = 1 → ¬Unclosed l k := by
  have I := stkI l l.length hf
  have hp : 0 < (stkN l l.length).length := by have := I.len; omega
  refine ⟨_, List.length_pos_iff.1 hp, rfl, (I.pt _ (by omega)).1, (I.pt _ (by omega)).2.1, ?_, ?_⟩
  · intro e h1 h2 h3
    have h4 := I.up _ (by omega) e h1 h2
    have h5 := (I.pt ((stkN l l.length).length - 1) (by omega)).2.2
    omega
  · intro k h1 h2 h3 hU
    by_cases hin : k ∈ stkN l l.length
    · obtain ⟨q, hq, e⟩ := List.getElem_of_mem hin
      have e' : (stkN l l.length).getD q 0 = k := by rw [List.getD_eq_getElem?_getD, List.getElem?_eq_getElem hq]; exact e
      have a1 := I.pt q hq
      have a2 := I.pt ((stkN l l.length).length - 1) (by omega)
      rw [e'] at a1
      have a3 := I.up ((stkN l l.length).length - 1) (by omega) k h1 (by omega)
      omega
    · obtain ⟨e, h4, h5, h6⟩ := I.shut k h2 h3 hin
      exact hU e h4 h5 h6
end Go.Proofs.YtgbdlgogccgciaaGreatDoor
namespace Go.Proofs.YtgbdlgogccgciaaGreatDoor
open Go.RowKit

/- THE TOKENS OF A PATTERN (plain mathematics): what both sides read. -/
def atL (l : List UInt8) (k : Nat) : Int := match l[k]? with | some b => (b.toNat : Int) | none => -1
theorem atL_bd (l : List UInt8) (k : Nat) : -1 ≤ atL l k ∧ atL l k ≤ 255 := by
  unfold atL
  split
  · rename_i b _
    have := b.toNat_lt
    omega
  · omega
theorem atL_drop (l : List UInt8) (i k : Nat) : atL (l.drop i) k = atL l (i + k) := by unfold atL; rw [List.getElem?_drop]
theorem atL_get {l : List UInt8} {k : Nat} (h : k < l.length) : atL l k = ((l[k]'h).toNat : Int) := by unfold atL; rw [List.getElem?_eq_getElem h]
theorem atL_none {l : List UInt8} {k : Nat} (h : l.length ≤ k) : atL l k = -1 := by unfold atL; rw [List.getElem?_eq_none h]
theorem atL_lt {l : List UInt8} {k : Nat} : 0 ≤ atL l k ↔ k < l.length := by
  by_cases h : k < l.length
  · rw [atL_get h]; omega
  · rw [atL_none (by omega)]; omega
def rangeB (lo hi : Int) : Nat → Bool := fun c => decide (lo ≤ c ∧ (c : Int) ≤ hi)
def orB (f g : Nat → Bool) : Nat → Bool := fun c => f c || g c
def notB (f : Nat → Bool) : Nat → Bool := fun c => !f c
def noB : Nat → Bool := fun _ => false
/- Cut at the first c; at the first colon that a closing bracket follows. -/
def cut1 (c : UInt8) : List UInt8 → Option (List UInt8 × List UInt8)
  | [] => none
  | x :: r => if x = c then some ([], r) else (cut1 c r).map fun q => (x :: q.1, q.2)
def cut2 (c d : UInt8) : List UInt8 → Option (List UInt8 × List UInt8)
  | [] => none
  | x :: r => if x = c ∧ r.head? = some d then some ([], r.tail) else (cut2 c d r).map fun q => (x :: q.1, q.2)
theorem cut1_some {c : UInt8} : ∀ {l q r : List UInt8}, cut1 c l = some (q, r) → l = q ++ c :: r ∧ c ∉ q
  | [], q, r, h => by simp [cut1] at h
  | x :: l, q, r, h => by
    unfold cut1 at h
    split at h
    · rename_i e
      cases h
      exact ⟨by rw [e]; rfl, by simp⟩
    · rename_i e
      cases hc : cut1 c l with
      | none => rw [hc] at h; cases h
      | some p =>
        obtain ⟨a, b⟩ := p
        rw [hc] at h
        cases h
        obtain ⟨h1, h2⟩ := cut1_some hc
        refine ⟨by rw [h1]; rfl, ?_⟩
        intro hm
        rcases List.mem_cons.1 hm with h3 | h3
        · exact e h3.symm
        · exact h2 h3
theorem cut1_none {c : UInt8} : ∀ {l : List UInt8}, cut1 c l = none → c ∉ l
  | [], _ => by simp
  | x :: l, h => by
    unfold cut1 at h
    split at h
    · cases h
    · rename_i e
      cases hc : cut1 c l with
      | none =>
        have := cut1_none hc
        intro hm
        rcases List.mem_cons.1 hm with h3 | h3
        · exact e h3.symm
        · exact this h3
      | some p => rw [hc] at h; cases h
theorem cut1_of {c : UInt8} {r : List UInt8} : ∀ {q : List UInt8}, c ∉ q → cut1 c (q ++ c :: r) = some (q, r)
  | [], _ => by simp [cut1]
  | x :: q, h => by
    have hx : ¬x = c := fun e => h (by simp [e])
    have hq : c ∉ q := fun e => h (by simp [e])
    show (if x = c then _ else _) = _
    rw [if_neg hx]
    rw [show q.append (c :: r) = q ++ c :: r from rfl, cut1_of hq]
    rfl
theorem cut1_not {c : UInt8} : ∀ {l : List UInt8}, c ∉ l → cut1 c l = none
  | [], _ => rfl
  | x :: l, h => by
    have hx : ¬x = c := fun e => h (by simp [e])
    show (if x = c then _ else _) = _
    rw [if_neg hx, cut1_not fun e => h (by simp [e])]
    rfl
/- Numbers of one to three digits. -/
def digB (c : UInt8) : Bool := decide (48 ≤ c.toNat ∧ c.toNat ≤ 57)
def valF (l : List UInt8) : Nat := l.foldl (fun n c => n * 10 + (c.toNat - 48)) 0
def countF (l : List UInt8) : Option Nat := if 1 ≤ l.length ∧ l.length ≤ 3 ∧ l.all digB = true ∧ valF l ≤ 255 then some (valF l) else none
/-- Behind an opening brace: least, most, how many bytes. -/
def intervalF (l : List UInt8) : Option (Int × Int × Nat) :=
  match cut1 125 l with
  | none => none
  | some (inner, _) =>
    match cut1 44 inner with
    | none => match countF inner with
      | none => none
      | some m => some ((m : Int), (m : Int), inner.length + 1)
    | some (low, high) =>
      match countF low with
      | none => none
      | some m => if high = [] then some ((m : Int), -1, inner.length + 1)
        else match countF high with
          | none => none
          | some n => if m ≤ n then some ((m : Int), (n : Int), inner.length + 1) else none
/- Named classes. -/
def alphaB : Nat → Bool := orB (rangeB 65 90) (rangeB 97 122)
def digitB : Nat → Bool := rangeB 48 57
def nAlpha : List UInt8 := [97, 108, 112, 104, 97]
def nDigit : List UInt8 := [100, 105, 103, 105, 116]
def nAlnum : List UInt8 := [97, 108, 110, 117, 109]
def nUpper : List UInt8 := [117, 112, 112, 101, 114]
def nLower : List UInt8 := [108, 111, 119, 101, 114]
def nSpace : List UInt8 := [115, 112, 97, 99, 101]
def nBlank : List UInt8 := [98, 108, 97, 110, 107]
def nPunct : List UInt8 := [112, 117, 110, 99, 116]
def nXdigit : List UInt8 := [120, 100, 105, 103, 105, 116]
def classF (n : List UInt8) : Option (Nat → Bool) :=
  if n = nAlpha then some alphaB else if n = nDigit then some digitB else if n = nAlnum then some (orB alphaB digitB)
  else if n = nUpper then some (rangeB 65 90) else if n = nLower then some (rangeB 97 122)
  else if n = nSpace then some (orB (rangeB 9 13) (rangeB 32 32)) else if n = nBlank then some (orB (rangeB 9 9) (rangeB 32 32))
  else if n = nPunct then some (orB (orB (orB (rangeB 33 47) (rangeB 58 64)) (rangeB 91 96)) (rangeB 123 126))
  else if n = nXdigit then some (orB (orB digitB (rangeB 65 70)) (rangeB 97 102)) else none
/-- An item at the beginning: its bytes and its length. -/
def itemF (l : List UInt8) : Option ((Nat → Bool) × Nat) :=
  if atL l 0 = 91 ∧ atL l 1 = 58 then
    match cut2 58 93 (l.drop 2) with
    | none => none
    | some (name, _) => match classF name with
      | none => none
      | some f => some (f, name.length + 4)
  else if atL l 0 = 91 ∧ (atL l 1 = 46 ∨ atL l 1 = 61) then none
  else if atL l 1 = 45 ∧ 0 ≤ atL l 2 ∧ atL l 2 ≠ 93 then
    if (atL l 2 = 91 ∧ (atL l 3 = 46 ∨ atL l 3 = 61 ∨ atL l 3 = 58)) ∨ atL l 2 < atL l 0 then none else some (rangeB (atL l 0) (atL l 2), 3)
  else some (rangeB (atL l 0) (atL l 0), 1)
theorem itemF_pos {l : List UInt8} {f : Nat → Bool} {k : Nat} (h : itemF l = some (f, k)) : 0 < k := by
  unfold itemF at h
  split at h
  · split at h
    · cases h
    · split at h
      · cases h
      · cases h; omega
  · split at h
    · cases h
    · split at h
      · split at h
        · cases h
        · cases h; omega
      · cases h; omega
/-- The items of a bracket: what they have, how many bytes up to the end of the bracket. -/
def itemsF (l : List UInt8) (f : Nat → Bool) (n : Nat) (first : Bool) : Option ((Nat → Bool) × Nat) :=
  if _hl : l = [] then none
  else if atL l 0 = 93 ∧ first = false then some (f, n + 1)
  else match _hi : itemF l with
    | none => none
    | some (g, k) => itemsF (l.drop k) (orB f g) (n + k) false
  termination_by l.length
  decreasing_by
  have := itemF_pos _hi
  have : 0 < l.length := List.length_pos_iff.2 _hl
  simp
  omega
def bracketF (l : List UInt8) : Option ((Nat → Bool) × Nat) :=
  if atL l 0 = 94 then (itemsF (l.drop 1) noB 1 true).map fun q => (notB q.1, q.2) else itemsF l noB 0 true
def specialB (c : Int) : Bool := [92, 94, 46, 91, 93, 36, 40, 41, 124, 42, 43, 63, 123, 125].any fun x => decide ((x : Int) = c)
/-- The token at i: a code, or the token and where the next begins. -/
def tokF (s : List UInt8) (i : Nat) : Int ⊕ (Tok × Nat) :=
  if atL s i = 94 then .inr (⟨5, i, noB, 0, 0⟩, i + 1)
  else if atL s i = 36 then .inr (⟨6, i, noB, 0, 0⟩, i + 1)
  else if atL s i = 40 then .inr (⟨1, i, noB, 0, 0⟩, i + 1)
  else if atL s i = 41 then .inr (⟨2, i, noB, 0, 0⟩, i + 1)
  else if atL s i = 124 then .inr (⟨3, i, noB, 0, 0⟩, i + 1)
  else if atL s i = 42 then .inr (⟨4, i, noB, 0, -1⟩, i + 1)
  else if atL s i = 43 then .inr (⟨4, i, noB, 1, -1⟩, i + 1)
  else if atL s i = 63 then .inr (⟨4, i, noB, 0, 1⟩, i + 1)
  else if atL s i = 123 then
    match intervalF (s.drop (i + 1)) with
    | none => .inl 4
    | some (m, n, k) => .inr (⟨4, i, noB, m, n⟩, i + 1 + k)
  else if atL s i = 91 then
    match bracketF (s.drop (i + 1)) with
    | none => .inl 3
    | some (f, k) => .inr (⟨0, i, f, 0, 0⟩, i + 1 + k)
  else if atL s i = 46 then .inr (⟨0, i, notB noB, 0, 0⟩, i + 1)
  else if atL s i = 92 then (if specialB (atL s (i + 1)) = true then .inr (⟨0, i, rangeB (atL s (i + 1)) (atL s (i + 1)), 0, 0⟩, i + 2) else .inl 2)
  else .inr (⟨0, i, rangeB (atL s i) (atL s i), 0, 0⟩, i + 1)
theorem tokF_next {s : List UInt8} {i j : Nat} {x : Tok} (h : tokF s i = .inr (x, j)) : i < j ∧ x.kind < 7 ∧ x.pos = i := by
  unfold tokF at h
  by_cases c94 : atL s i = 94
  · rw [if_pos c94] at h; cases h; exact ⟨by omega, by simp, rfl⟩
  rw [if_neg c94] at h
  by_cases c36 : atL s i = 36
  · rw [if_pos c36] at h; cases h; exact ⟨by omega, by simp, rfl⟩
  rw [if_neg c36] at h
  by_cases c40 : atL s i = 40
  · rw [if_pos c40] at h; cases h; exact ⟨by omega, by simp, rfl⟩
  rw [if_neg c40] at h
  by_cases c41 : atL s i = 41
  · rw [if_pos c41] at h; cases h; exact ⟨by omega, by simp, rfl⟩
  rw [if_neg c41] at h
  by_cases c124 : atL s i = 124
  · rw [if_pos c124] at h; cases h; exact ⟨by omega, by simp, rfl⟩
  rw [if_neg c124] at h
  by_cases c42 : atL s i = 42
  · rw [if_pos c42] at h; cases h; exact ⟨by omega, by simp, rfl⟩
  rw [if_neg c42] at h
  by_cases c43 : atL s i = 43
  · rw [if_pos c43] at h; cases h; exact ⟨by omega, by simp, rfl⟩
  rw [if_neg c43] at h
  by_cases c63 : atL s i = 63
  · rw [if_pos c63] at h; cases h; exact ⟨by omega, by simp, rfl⟩
  rw [if_neg c63] at h
  by_cases c123 : atL s i = 123
  · rw [if_pos c123] at h
    cases hf : intervalF (s.drop (i + 1)) with
    | none => rw [hf] at h; cases h
    | some q => rw [hf] at h; cases h; exact ⟨by omega, by simp, rfl⟩
  rw [if_neg c123] at h
  by_cases c91 : atL s i = 91
  · rw [if_pos c91] at h
    cases hf : bracketF (s.drop (i + 1)) with
    | none => rw [hf] at h; cases h
    | some q => rw [hf] at h; cases h; exact ⟨by omega, by simp, rfl⟩
  rw [if_neg c91] at h
  by_cases c46 : atL s i = 46
  · rw [if_pos c46] at h; cases h; exact ⟨by omega, by simp, rfl⟩
  rw [if_neg c46] at h
  by_cases c92 : atL s i = 92
  · rw [if_pos c92] at h
    cases hf : specialB (atL s (i + 1)) with
    | false => rw [hf, if_neg (by decide)] at h; cases h
    | true => rw [hf, if_pos rfl] at h; cases h; exact ⟨by omega, by simp, rfl⟩
  rw [if_neg c92] at h
  cases h
  exact ⟨by omega, by simp, rfl⟩
/-- The tokens from i on, behind those read: all tokens, the code, the place. -/
def lexF (s : List UInt8) (i : Nat) (l : List Tok) : List Tok × Int × Nat :=
  if _h : i < s.length then
    match _ht : tokF s i with
    | .inl c => (l, c, i)
    | .inr (x, j) => lexF s j (l ++ [x])
  else (l, 0, 0)
  termination_by s.length - i
  decreasing_by
  have := (tokF_next _ht).1
  omega
theorem lexF_end {s : List UInt8} {i : Nat} {l : List Tok} (h : ¬i < s.length) : lexF s i l = (l, 0, 0) := by rw [lexF, dif_neg h]
theorem lexF_bad {s : List UInt8} {i : Nat} {l : List Tok} {c : Int} (h : i < s.length) (ht : tokF s i = .inl c) : lexF s i l = (l, c, i) := by
  rw [lexF, dif_pos h]
  split
  · rename_i c' e; rw [ht] at e; cases e; rfl
  · rename_i x j e; rw [ht] at e; cases e
theorem lexF_one {s : List UInt8} {i j : Nat} {l : List Tok} {x : Tok} (h : i < s.length) (ht : tokF s i = .inr (x, j)) : lexF s i l = lexF s j (l ++ [x]) := by
  rw [lexF, dif_pos h]
  split
  · rename_i c' e; rw [ht] at e; cases e
  · rename_i x' j' e; rw [ht] at e; cases e; rfl
theorem itemsF_nil {f : Nat → Bool} {n : Nat} {b : Bool} : itemsF [] f n b = none := by rw [itemsF, dif_pos rfl]
theorem itemsF_end {l : List UInt8} {f : Nat → Bool} {n : Nat} (h : atL l 0 = 93) : itemsF l f n false = some (f, n + 1) := by
  have hl : l ≠ [] := fun e => by subst e; exact absurd h (by decide)
  rw [itemsF, dif_neg hl, if_pos ⟨h, rfl⟩]
theorem itemsF_bad {l : List UInt8} {f : Nat → Bool} {n : Nat} {b : Bool} (h : ¬(atL l 0 = 93 ∧ b = false)) (hi : itemF l = none) : itemsF l f n b = none := by
  by_cases hl : l = []
  · subst hl; exact itemsF_nil
  rw [itemsF, dif_neg hl, if_neg h]
  split
  · rfl
  · rename_i g k e; rw [hi] at e; cases e
theorem itemsF_one {l : List UInt8} {f g : Nat → Bool} {n k : Nat} {b : Bool} (hl : l ≠ []) (h : ¬(atL l 0 = 93 ∧ b = false)) (hi : itemF l = some (g, k)) : itemsF l f n b = itemsF (l.drop k) (orB f g) (n + k) false := by
  rw [itemsF, dif_neg hl, if_neg h]
  split
  · rename_i e; rw [hi] at e; cases e
  · rename_i g' k' e; rw [hi] at e; cases e; rfl
end Go.Proofs.YtgbdlgogccgciaaGreatDoor
