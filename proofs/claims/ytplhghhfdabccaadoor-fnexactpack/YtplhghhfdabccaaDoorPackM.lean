import Derived.Test.YtplhghhfdabccaaDoorGen
namespace Go.Proofs.YtplhghhfdabccaaDoor

/- THE LAYOUT OF A TABLE, as mathematics. -/
def cntL (row : List Int) (x : Int) : Nat := row.count x
/-- x stands most often in the row; of several, the smallest. -/
def isBest (row : List Int) (x : Int) : Bool := row.contains x && row.all fun y => decide (cntL row y < cntL row x ∨ (cntL row y = cntL row x ∧ x ≤ y))
def bestF (row : List Int) : Int := (row.find? (isBest row)).getD 0
theorem isBest_iff {row : List Int} {x : Int} : isBest row x = true ↔ x ∈ row ∧ ∀ y ∈ row, cntL row y < cntL row x ∨ (cntL row y = cntL row x ∧ x ≤ y) := by
  simp [isBest]
theorem isBest_unique {row : List Int} {x y : Int} (hx : isBest row x = true) (hy : isBest row y = true) : x = y := by
  rw [isBest_iff] at hx hy
  have a := hx.2 y hy.1
  have b := hy.2 x hx.1
  omega
theorem bestF_eq {row : List Int} {x : Int} (h : isBest row x = true) : bestF row = x := by
  unfold bestF
  cases hf : row.find? (isBest row) with
  | none =>
    rw [List.find?_eq_none] at hf
    exact absurd h (hf x (isBest_iff.1 h).1)
  | some y => exact isBest_unique (List.find?_some hf) h

/-- Nobody has the slot. -/
def freeAt (chk : List Int) (k : Nat) : Bool := decide (chk.length ≤ k) || chk.getD k 0 == -1
def fitsAt (chk : List Int) (odd : List Nat) (k : Nat) : Bool := odd.all fun c => freeAt chk (k + c)
def fitF (chk : List Int) (odd : List Nat) : Nat := ((List.range (chk.length + 1)).find? (fitsAt chk odd)).getD 0
theorem fits_end (chk : List Int) (odd : List Nat) {k : Nat} (h : chk.length ≤ k) : fitsAt chk odd k = true := by
  simp only [fitsAt, List.all_eq_true, freeAt, Bool.or_eq_true, decide_eq_true_eq]
  intro c _
  exact .inl (by omega)
theorem find_range {p : Nat → Bool} {k n : Nat} (hk : k < n) (h : p k = true) (hb : ∀ j, j < k → p j = false) : (List.range n).find? p = some k := by
  rw [List.find?_eq_some_iff_append]
  refine ⟨h, List.range k, (List.range n).drop (k + 1), ?_, ?_⟩
  · apply List.ext_getElem
    · simp; omega
    · intro i h1 h2
      rw [List.getElem_append]
      split
      · simp
      · rename_i hi
        simp at hi h1
        by_cases e : i = k
        · subst e; simp
        · have : i - k = (i - k - 1) + 1 := by omega
          simp only [List.length_range]
          rw [List.getElem_cons]
          split
          · omega
          · simp; omega
  · intro j hj
    simp at hj
    simp [hb j hj]
theorem fitF_eq {chk : List Int} {odd : List Nat} {k : Nat} (h : fitsAt chk odd k = true) (hb : ∀ j, j < k → fitsAt chk odd j = false) : fitF chk odd = k := by
  have hk : k < chk.length + 1 := by
    by_cases hc : k ≤ chk.length
    · omega
    · have := hb chk.length (by omega)
      rw [fits_end chk odd (Nat.le_refl _)] at this
      cases this
  unfold fitF
  rw [find_range hk h hb]
  rfl

/-- The classes of a row whose entry isn't the default. -/
def oddF (row : List Int) (d : Int) (k : Nat) : List Nat := (List.range k).filter fun c => row.getD c 0 != d
theorem oddF_succ (row : List Int) (d : Int) (k : Nat) : oddF row d (k + 1) = oddF row d k ++ (if row.getD k 0 != d then [k] else []) := by
  unfold oddF
  rw [List.range_succ, List.filter_append]
  congr 1
  simp only [List.filter_cons, List.filter_nil]
theorem oddF_lt {row : List Int} {d : Int} {k c : Nat} (h : c ∈ oddF row d k) : c < k := by
  simp [oddF] at h; exact h.1

/-- A list made at least n long. -/
def longL (z : Int) (n : Nat) (l : List Int) : List Int := l ++ List.replicate (n - l.length) z
theorem longL_len (z : Int) (n : Nat) (l : List Int) : (longL z n l).length = max l.length n := by simp [longL]; omega
theorem longL_self {z : Int} {n : Nat} {l : List Int} (h : n ≤ l.length) : longL z n l = l := by
  have : n - l.length = 0 := by omega
  simp [longL, this]
theorem longL_succ {z : Int} {l : List Int} : longL z (l.length + 1) l = l ++ [z] := by
  have : l.length + 1 - l.length = 1 := by omega
  simp [longL, this]
theorem longL_step {z : Int} {n : Nat} {l : List Int} (h : l.length ≤ n) : longL z (n + 1) l = longL z n l ++ [z] := by
  have : n + 1 - l.length = (n - l.length) + 1 := by omega
  simp [longL, this, List.replicate_succ', List.append_assoc]
theorem longL_twice {z : Int} {n m : Nat} {l : List Int} (h : n ≤ m) : longL z m (longL z n l) = longL z m l := by
  unfold longL
  rw [List.append_assoc, List.length_append, List.length_replicate, List.replicate_append_replicate]
  congr 2
  omega
theorem longL_set {z : Int} {n i : Nat} {l : List Int} (h : i < l.length) (x : Int) : longL z n (l.set i x) = (longL z n l).set i x := by
  unfold longL
  rw [List.length_set, List.set_append, if_pos h]

/-- One entry laid: slot i gets x (the list grows to it). -/
def layL (z : Int) (l : List Int) (i : Nat) (x : Int) : List Int := (longL z (i + 1) l).set i x
/-- The entries of one state laid. f: what stands at a class. -/
def layAll (z : Int) (l : List Int) (k : Nat) (f : Nat → Int) : List Nat → List Int
  | [] => l
  | c :: cs => layAll z (layL z l (k + c) (f c)) k f cs
theorem layAll_append (z : Int) (k : Nat) (f : Nat → Int) : ∀ (a b : List Nat) (l : List Int), layAll z l k f (a ++ b) = layAll z (layAll z l k f a) k f b
  | [], _, _ => rfl
  | c :: cs, b, l => by simp only [List.cons_append, layAll]; exact layAll_append z k f cs b _
/-- The same, the list first made long enough. -/
def setAll (l : List Int) (k : Nat) (f : Nat → Int) : List Nat → List Int
  | [] => l
  | c :: cs => setAll (l.set (k + c) (f c)) k f cs
theorem setAll_append (k : Nat) (f : Nat → Int) : ∀ (a b : List Nat) (l : List Int), setAll l k f (a ++ b) = setAll (setAll l k f a) k f b
  | [], _, _ => rfl
  | c :: cs, b, l => by simp only [List.cons_append, setAll]; exact setAll_append k f cs b _
theorem setAll_len (k : Nat) (f : Nat → Int) : ∀ (a : List Nat) (l : List Int), (setAll l k f a).length = l.length
  | [], _ => rfl
  | c :: cs, l => by simp only [setAll]; rw [setAll_len k f cs, List.length_set]
theorem layAll_eq (z : Int) (k : Nat) (f : Nat → Int) (n : Nat) : ∀ (a : List Nat) (l : List Int), (∀ c ∈ a, k + c < n) → longL z n (layAll z l k f a) = setAll (longL z n l) k f a
  | [], _, _ => rfl
  | c :: cs, l, h => by
    have hc := h c (by simp)
    simp only [layAll, setAll]
    rw [layAll_eq z k f n cs _ (fun x hx => h x (by simp [hx]))]
    congr 1
    unfold layL
    rw [longL_set (by rw [longL_len]; omega), longL_twice (by omega)]
theorem layAll_len (z : Int) (k : Nat) (f : Nat → Int) : ∀ (a : List Nat) (l : List Int), l.length ≤ (layAll z l k f a).length ∧ (∀ c ∈ a, k + c < (layAll z l k f a).length)
  | [], l => ⟨Nat.le_refl _, by simp⟩
  | c :: cs, l => by
    have ih := layAll_len z k f cs (layL z l (k + c) (f c))
    have hl : (layL z l (k + c) (f c)).length = max l.length (k + c + 1) := by unfold layL; rw [List.length_set, longL_len]
    simp only [layAll]
    refine ⟨by omega, fun x hx => ?_⟩
    rcases List.mem_cons.1 hx with rfl | hx
    · omega
    · exact ih.2 x hx
theorem layAll_lt (z : Int) (k : Nat) (f : Nat → Int) (n : Nat) : ∀ (a : List Nat) (l : List Int), l.length ≤ n → (∀ c ∈ a, k + c < n) → (layAll z l k f a).length ≤ n
  | [], _, h, _ => h
  | c :: cs, l, h, ha => by
    simp only [layAll]
    refine layAll_lt z k f n cs _ ?_ (fun x hx => ha x (by simp [hx]))
    have := ha c (by simp)
    unfold layL
    rw [List.length_set, longL_len]
    omega
/-- What both sides lay, where top is the last class. -/
theorem lay_same (z : Int) (k : Nat) (f : Nat → Int) (a : List Nat) (l : List Int) (top : Nat) (ht : top ∈ a) (h : ∀ c ∈ a, c ≤ top) : layAll z l k f a = setAll (longL z (k + top + 1) l) k f a := by
  have h1 := layAll_eq z k f (k + top + 1) a l (fun c hc => by have := h c hc; omega)
  have h2 := (layAll_len z k f a l).2 top ht
  rw [← h1, longL_self (by omega)]

/- THE WHOLE LAYOUT. -/
structure Lay where
  base : List Int
  dflt : List Int
  next : List Int
  chk : List Int
def rowF (nx : List Int) (wd s : Nat) : List Int := (nx.drop (s * wd)).take wd
/-- State s laid: none if a slot would be too high. -/
def layF (nx : List Int) (wd s : Nat) (L : Lay) : Option Lay :=
  let row := rowF nx wd s
  let d := bestF row
  let odd := oddF row d wd
  if odd = [] then some ⟨L.base ++ [0], L.dflt ++ [d], L.next, L.chk⟩
  else
    let k := fitF L.chk odd
    if odd.all (fun c => decide (k + c < 60000)) then some ⟨L.base ++ [(k : Int)], L.dflt ++ [d], layAll 0 L.next k (fun c => row.getD c 0) odd, layAll (-1) L.chk k (fun _ => (s : Int)) odd⟩
    else none
def layN (nx : List Int) (wd : Nat) : Nat → Option Lay
  | 0 => some ⟨[], [], [], []⟩
  | s + 1 => (layN nx wd s).bind (layF nx wd s)
end Go.Proofs.YtplhghhfdabccaaDoor
