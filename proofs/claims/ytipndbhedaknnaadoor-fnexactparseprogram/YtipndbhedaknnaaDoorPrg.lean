import Derived.Test.YtipndbhedaknnaaDoorRead
import Derived.Test.YtipndbhedaknnaaDoorScrL
namespace Go.Proofs.YtipndbhedaknnaaDoor
open Go.RowKit

/- PROGRAMS: the mathematics. -/
structure CaseD where
  pat : List UInt8
  act : ActD
structure StD where
  cases : List CaseD
  tmo : Int
  onT : ActD
  full : Bool
  onF : ActD
  eof : Int
structure PrD where
  lim : Int
  most : Int
  states : List StD
def PrD.zero : PrD := ⟨0, 0, []⟩
def StD.new (e : Int) : StD := ⟨[], 0, .zero, false, .zero, e⟩
def lastT (p : PrD) : Int := match p.states.getLast? with
  | none => 0
  | some s => s.tmo
def lastF (p : PrD) : Bool := match p.states.getLast? with
  | none => false
  | some s => s.full
def lastC (p : PrD) : Nat := match p.states.getLast? with
  | none => 0
  | some s => s.cases.length
def orderF (p : PrD) (l : LineD) : Bool :=
  if l.key = 108 then !decide (p.lim > 0) else if l.key = 115 then decide (p.lim > 0) else
  decide (p.lim > 0) && !p.states.isEmpty && !(l.key == 116 && decide (lastT p > 0)) && !(l.key == 102 && lastF p)
def manyF (p : PrD) (l : LineD) : Bool := (l.key == 115 && p.states.length == 200) || (l.key == 111 && lastC p == 100)
def onLast (f : StD → StD) (ss : List StD) : List StD := match ss.getLast? with
  | none => ss
  | some s => ss.dropLast ++ [f s]
def stepF (p : PrD) (l : LineD) : PrD :=
  if l.key = 108 then ⟨l.x, l.y, p.states⟩
  else if l.key = 115 then ⟨p.lim, p.most, p.states ++ [.new l.x]⟩
  else if l.key = 111 then ⟨p.lim, p.most, onLast (fun s => { s with cases := s.cases ++ [⟨l.text, l.act⟩] }) p.states⟩
  else if l.key = 116 then ⟨p.lim, p.most, onLast (fun s => { s with tmo := l.x, onT := l.act }) p.states⟩
  else ⟨p.lim, p.most, onLast (fun s => { s with full := true, onF := l.act }) p.states⟩
def progL (i : Nat) (p : PrD) : List (List UInt8) → PrD × Int × Int
  | [] => if p.states = [] then (.zero, 5, 0) else (p, 0, 0)
  | raw :: rest => if skipF raw then progL (i + 1) p rest
    else if (readF raw).2 = false then (.zero, 2, (i : Int) + 1)
    else if orderF p (readF raw).1 = false then (.zero, 3, (i : Int) + 1)
    else if manyF p (readF raw).1 = true then (.zero, 4, (i : Int) + 1)
    else progL (i + 1) (stepF p (readF raw).1) rest
/-- What ParseProgram answers. -/
def progF (t : ByteArray) : PrD × Int × Int := if 20000 < t.size then (.zero, 1, 0) else progL 0 .zero (cutF 10 t.data.toList)
structure PrgSt (t : ByteArray) (k : Nat) (p : PrD) : Prop where
  eq : progF t = progL k p ((cutF 10 t.data.toList).drop k)
  few : p.states.length ≤ 200
  fewc : ∀ s ∈ p.states, s.cases.length ≤ 100
theorem PrgSt.start (t : ByteArray) (h : ¬20000 < t.size) : PrgSt t 0 .zero := ⟨by unfold progF; rw [if_neg h]; rfl, by simp [PrD.zero], by simp [PrD.zero]⟩
theorem PrgSt.none {t : ByteArray} {k : Nat} {p : PrD} (h : PrgSt t k p) (hk : ¬k < (cutF 10 t.data.toList).length) (he : p.states = []) : progF t = (.zero, 5, 0) := by
  rw [h.eq, List.drop_eq_nil_of_le (by omega), progL, if_pos he]
theorem PrgSt.full {t : ByteArray} {k : Nat} {p : PrD} (h : PrgSt t k p) (hk : ¬k < (cutF 10 t.data.toList).length) (he : ¬p.states = []) : progF t = (p, 0, 0) := by
  rw [h.eq, List.drop_eq_nil_of_le (by omega), progL, if_neg he]
theorem PrgSt.skip {t rb : ByteArray} {k : Nat} {p : PrD} (h : PrgSt t k p) (hl : LineAt t k rb) (hs : skipF ((cutF 10 t.data.toList)[k]'(hl.lt)) = true) : PrgSt t (k + 1) p :=
  ⟨by rw [h.eq, List.drop_eq_getElem_cons hl.lt, progL, if_pos hs], h.few, h.fewc⟩
theorem PrgSt.bad {t rb : ByteArray} {k : Nat} {p : PrD} (h : PrgSt t k p) (hl : LineAt t k rb) (hs : skipF ((cutF 10 t.data.toList)[k]'(hl.lt)) = false) (hb : (readF rb.data.toList).2 = false) : progF t = (.zero, 2, (k : Int) + 1) := by
  rw [h.eq, List.drop_eq_getElem_cons hl.lt, progL, if_neg (by simp [hs]), hl.eq, if_pos hb]
theorem PrgSt.order {t rb : ByteArray} {k : Nat} {p : PrD} (h : PrgSt t k p) (hl : LineAt t k rb) (hs : skipF ((cutF 10 t.data.toList)[k]'(hl.lt)) = false) {l : LineD} (hb : readF rb.data.toList = (l, true)) (ho : orderF p l = false) : progF t = (.zero, 3, (k : Int) + 1) := by
  rw [h.eq, List.drop_eq_getElem_cons hl.lt, progL, if_neg (by simp [hs]), hl.eq, hb, if_neg (by simp), if_pos ho]
theorem PrgSt.many {t rb : ByteArray} {k : Nat} {p : PrD} (h : PrgSt t k p) (hl : LineAt t k rb) (hs : skipF ((cutF 10 t.data.toList)[k]'(hl.lt)) = false) {l : LineD} (hb : readF rb.data.toList = (l, true)) (ho : orderF p l = true) (hm : manyF p l = true) : progF t = (.zero, 4, (k : Int) + 1) := by
  rw [h.eq, List.drop_eq_getElem_cons hl.lt, progL, if_neg (by simp [hs]), hl.eq, hb, if_neg (by simp), if_neg (by simp [ho]), if_pos hm]
theorem PrgSt.step {t rb : ByteArray} {k : Nat} {p : PrD} (h : PrgSt t k p) (hl : LineAt t k rb) (hs : skipF ((cutF 10 t.data.toList)[k]'(hl.lt)) = false) {l : LineD} (hb : readF rb.data.toList = (l, true)) (ho : orderF p l = true) (hm : manyF p l = false) : progF t = progL (k + 1) (stepF p l) ((cutF 10 t.data.toList).drop (k + 1)) := by
  rw [h.eq, List.drop_eq_getElem_cons hl.lt, progL, if_neg (by simp [hs]), hl.eq, hb, if_neg (by simp), if_neg (by simp [ho]), if_neg (by simp [hm])]
theorem onLast_eq (f : StD → StD) (ini : List StD) (s : StD) : onLast f (ini ++ [s]) = ini ++ [f s] := by simp [onLast]
theorem lastT_eq (a b : Int) (ini : List StD) (s : StD) : lastT ⟨a, b, ini ++ [s]⟩ = s.tmo := by simp [lastT]
theorem lastF_eq (a b : Int) (ini : List StD) (s : StD) : lastF ⟨a, b, ini ++ [s]⟩ = s.full := by simp [lastF]
theorem lastC_eq (a b : Int) (ini : List StD) (s : StD) : lastC ⟨a, b, ini ++ [s]⟩ = s.cases.length := by simp [lastC]
/-- A line that is right has one of the five keys, with its bounds. -/
theorem readL_key (fs : List (List UInt8)) (h : (readL fs).2 = true) : ((readL fs).1.key = 108 ∧ 1 ≤ (readL fs).1.x) ∨ (readL fs).1.key = 115 ∨ (readL fs).1.key = 111 ∨ ((readL fs).1.key = 116 ∧ 1 ≤ (readL fs).1.x) ∨ (readL fs).1.key = 102 := by
  unfold readL at h ⊢
  split at h
  · rename_i c; rw [if_pos c]; left; simp [btw] at h ⊢; omega
  · rename_i c; rw [if_neg c]
    split at h
    · rename_i c; rw [if_pos c]; right; left; rfl
    · rename_i c; rw [if_neg c]
      split at h
      · rename_i c; rw [if_pos c]; right; right; left; rfl
      · rename_i c; rw [if_neg c]
        split at h
        · rename_i c; rw [if_pos c]; right; right; right; left; simp [btw] at h ⊢; omega
        · rename_i c; rw [if_neg c]
          split at h
          · rename_i c; rw [if_pos c]; right; right; right; right; rfl
          · cases h

/- .. AND THE MEMORY. -/
def csCells (cs : List CaseD) : List Value := cs.flatMap fun c => [strV c.pat, .int .i64 c.act.go, .int .i64 c.act.ex, strV c.act.send]
theorem csCells_len (cs : List CaseD) : (csCells cs).length = cs.length * 4 := by
  induction cs with
  | nil => rfl
  | cons a b ih => simp [csCells] at ih ⊢; omega
theorem csCells_app (a b : List CaseD) : csCells (a ++ b) = csCells a ++ csCells b := by simp [csCells]
def stCells (cv : Value) (s : StD) : List Value := [cv, .int .i64 s.tmo, .int .i64 s.onT.go, .int .i64 s.onT.ex, strV s.onT.send, .bool s.full, .int .i64 s.onF.go, .int .i64 s.onF.ex, strV s.onF.send, .int .i64 s.eof]
def stsCells (cv : Nat → Value) : List StD → List Value
  | [] => []
  | s :: r => stCells (cv 0) s ++ stsCells (fun i => cv (i + 1)) r
theorem stsCells_len (cv : Nat → Value) (ss : List StD) : (stsCells cv ss).length = ss.length * 10 := by
  induction ss generalizing cv with
  | nil => rfl
  | cons a b ih => simp [stsCells, stCells, ih]; omega
theorem stsCells_app (cv : Nat → Value) (ss : List StD) (s : StD) : stsCells cv (ss ++ [s]) = stsCells cv ss ++ stCells (cv ss.length) s := by
  induction ss generalizing cv with
  | nil => simp [stsCells]
  | cons a b ih => simp [stsCells, ih]
theorem stsCells_congr {cv cv' : Nat → Value} (ss : List StD) (h : ∀ i, i < ss.length → cv i = cv' i) : stsCells cv ss = stsCells cv' ss := by
  induction ss generalizing cv cv' with
  | nil => rfl
  | cons a b ih => rw [stsCells, stsCells, h 0 (by simp), ih (fun i hi => h (i + 1) (by simpa using hi))]
/-- The rows of a program's states: their own, and those of the cases. -/
structure PrV (B : Nat) (W : World) (sv : Value) (cv : Nat → Value) (ss : List StD) : Prop where
  row : W.ownsRow B 45 10 sv ss.length (stsCells cv ss)
  cas : ∀ i (h : i < ss.length), W.ownsRow B 47 4 (cv i) ss[i].cases.length (csCells ss[i].cases)
  apart : ∀ i, i < ss.length → ∀ b, (cv i).ownBlock = some b → sv.ownBlock ≠ some b ∧ ∀ j, j < ss.length → j ≠ i → (cv j).ownBlock ≠ some b
theorem ownsRow_keep {w w' : World} {base : Nat} {e : TypeId} {sz n : Nat} {v : Value} {xs : List Value} (h : w.ownsRow base e sz v n xs) (hb : ∀ b, v.ownBlock = some b → w'.heap[b]? = w.heap[b]?) : w'.ownsRow base e sz v n xs := by
  obtain ⟨h1, h2⟩ := h
  refine ⟨h1, ?_⟩
  rcases h2 with h0 | ⟨g, cap, cur, rfl, hg, hh, r⟩
  · exact .inl h0
  · exact .inr ⟨g, cap, cur, rfl, hg, (hb g rfl).trans hh, r⟩
theorem ownsRow_blk {w : World} {base : Nat} {e : TypeId} {sz n : Nat} {v : Value} {xs : List Value} (h : w.ownsRow base e sz v n xs) {b : Nat} (hb : v.ownBlock = some b) : base ≤ b ∧ b < w.heap.size := by
  obtain ⟨h1, h2⟩ := h
  rcases h2 with ⟨rfl, _⟩ | ⟨g, cap, cur, rfl, hg, hh, r⟩
  · simp [Value.ownBlock] at hb
  · simp [Value.ownBlock] at hb
    subst hb
    exact ⟨hg, (Array.getElem?_eq_some_iff.1 hh).1⟩
theorem PrV.keep {B : Nat} {W W' : World} {sv : Value} {cv : Nat → Value} {ss : List StD} (h : PrV B W sv cv ss) (hk : ∀ b, (sv.ownBlock = some b ∨ ∃ i, i < ss.length ∧ (cv i).ownBlock = some b) → W'.heap[b]? = W.heap[b]?) : PrV B W' sv cv ss :=
  ⟨ownsRow_keep h.row fun b hb => hk b (.inl hb), fun i hi => ownsRow_keep (h.cas i hi) fun b hb => hk b (.inr ⟨i, hi, hb⟩), h.apart⟩
theorem PrV.lt {B : Nat} {W : World} {sv : Value} {cv : Nat → Value} {ss : List StD} (h : PrV B W sv cv ss) {b : Nat} (hb : sv.ownBlock = some b ∨ ∃ i, i < ss.length ∧ (cv i).ownBlock = some b) : B ≤ b ∧ b < W.heap.size := by
  rcases hb with hb | ⟨i, hi, hb⟩
  · exact ownsRow_blk h.row hb
  · exact ownsRow_blk (h.cas i hi) hb
theorem PrV.below {B : Nat} {W W' : World} {sv : Value} {cv : Nat → Value} {ss : List StD} (h : PrV B W sv cv ss) (hb : Below W.heap.size W W') : PrV B W' sv cv ss :=
  h.keep fun b hbb => hb.block b (h.lt hbb).2
theorem PrV.zero (B : Nat) (W : World) (cv : Nat → Value) : PrV B W (.slice none 0 0) cv [] :=
  ⟨⟨rfl, .inl ⟨rfl, rfl⟩⟩, fun _ hi => absurd hi (Nat.not_lt_zero _), fun _ hi => absurd hi (Nat.not_lt_zero _)⟩
def updV (cv : Nat → Value) (n : Nat) (v : Value) : Nat → Value := fun i => if i = n then v else cv i
theorem updV_same (cv : Nat → Value) (n : Nat) (v : Value) : updV cv n v n = v := by simp [updV]
theorem updV_ne (cv : Nat → Value) {n i : Nat} (v : Value) (h : i ≠ n) : updV cv n v i = cv i := by simp [updV, h]
theorem getLast_at (ini : List StD) (s : StD) (i : Nat) (h : i < (ini ++ [s]).length) : (∃ hi : i < ini.length, (ini ++ [s])[i] = ini[i]) ∨ (i = ini.length ∧ (ini ++ [s])[i] = s) := by
  by_cases hi : i < ini.length
  · exact .inl ⟨hi, List.getElem_append_left hi⟩
  · have : i = ini.length := by simp at h; omega
    subst this
    exact .inr ⟨rfl, by simp⟩
/-- A state appended. -/
theorem PrV.push {B : Nat} {W W' : World} {sv : Value} {cv : Nat → Value} {ss : List StD} (h : PrV B W sv cv ss) {s : StD} (hs : s.cases = []) {g' cap' : Nat}
    (own : W'.ownsRow B 45 10 (.slice (some ⟨g', 0, none⟩) (ss.length + 1) cap') (ss.length + 1) (stsCells cv ss ++ stCells (.slice none 0 0) s)) (gr : W.grownBy W' sv.ownBlock) (hat : sv.ownBlock = some g' ∨ W.heap.size ≤ g') :
    PrV B W' (.slice (some ⟨g', 0, none⟩) (ss.length + 1) cap') (updV cv ss.length (.slice none 0 0)) (ss ++ [s]) := by
  have hkeep : ∀ i, i < ss.length → ∀ b, (cv i).ownBlock = some b → W'.heap[b]? = W.heap[b]? := fun i hi b hb =>
    gr.block b (h.lt (.inr ⟨i, hi, hb⟩)).2 (fun e => (h.apart i hi b hb).1 e.symm)
  refine ⟨?_, fun i hi => ?_, fun i hi b hb => ?_⟩
  · rw [stsCells_app, updV_same, stsCells_congr (cv' := cv) ss (fun i hi => updV_ne cv _ (by omega)), List.length_append]
    exact own
  · rcases getLast_at ss s i hi with ⟨hj, e⟩ | ⟨rfl, e⟩
    · rw [e, updV_ne cv _ (by omega)]
      exact ownsRow_keep (h.cas i hj) (hkeep i hj)
    · rw [e, updV_same, hs]
      exact ⟨rfl, .inl ⟨rfl, rfl⟩⟩
  · rcases getLast_at ss s i hi with ⟨hj, _⟩ | ⟨rfl, _⟩
    · rw [updV_ne cv _ (by omega)] at hb
      have hlt := (h.lt (.inr ⟨i, hj, hb⟩)).2
      refine ⟨?_, fun j hj2 hne => ?_⟩
      · intro e
        simp [Value.ownBlock] at e
        subst e
        rcases hat with hat | hat
        · exact (h.apart i hj _ hb).1 hat
        · omega
      · rcases getLast_at ss s j hj2 with ⟨hj3, _⟩ | ⟨rfl, _⟩
        · rw [updV_ne cv _ (by omega)]
          exact (h.apart i hj b hb).2 j hj3 hne
        · rw [updV_same]; simp [Value.ownBlock]
    · rw [updV_same] at hb
      simp [Value.ownBlock] at hb
/-- A cell of the last state stored. -/
theorem PrV.cell {B : Nat} {W : World} {sg cap : Nat} {cv : Nat → Value} {ini : List StD} {s s' : StD} (h : PrV B W (.slice (some ⟨sg, 0, none⟩) (ini.length + 1) cap) cv (ini ++ [s])) {c : Nat} (hc : c < 10) {u : Value} (hs : s'.cases = s.cases) (he : stCells (cv ini.length) s' = (stCells (cv ini.length) s).set c u) :
    PrV B (W.setCell ⟨sg, ini.length * 10 + c, none⟩ u) (.slice (some ⟨sg, 0, none⟩) (ini.length + 1) cap) cv (ini ++ [s']) := by
  have hr : W.ownsRow B 45 10 (.slice (some ⟨sg, 0, none⟩) (ini.length + 1) cap) (ini.length + 1) (stsCells cv ini ++ stCells (cv ini.length) s) := by
    have := h.row
    rw [stsCells_app, List.length_append] at this
    exact this
  have h1 := (hr.stored (ini.length * 10 + c) u).1
  have hl := stsCells_len cv ini
  rw [List.set_append_right _ _ (by omega), show ini.length * 10 + c - (stsCells cv ini).length = c by omega, ← he] at h1
  refine ⟨?_, fun i hi => ?_, fun i hi => ?_⟩
  · rw [stsCells_app]
    simpa using h1
  · have hi' : i < (ini ++ [s]).length := by simpa using hi
    have hk := ownsRow_keep (w' := W.setCell ⟨sg, ini.length * 10 + c, none⟩ u) (h.cas i hi') (fun b hb => heap_setCell_other _ _ _ _ (fun e => by
      have := (h.apart i hi' b hb).1
      simp only at e
      rw [← e] at this
      exact this rfl))
    rcases getLast_at ini s' i hi with ⟨hj, e⟩ | ⟨rfl, e⟩
    · rcases getLast_at ini s i hi' with ⟨_, e2⟩ | ⟨e3, _⟩
      · rw [e]; rw [e2] at hk; exact hk
      · omega
    · rcases getLast_at ini s ini.length hi' with ⟨e3, _⟩ | ⟨_, e2⟩
      · omega
      · rw [e, hs]; rw [e2] at hk; exact hk
  · have := h.apart i (by simpa using hi)
    simpa using this
/-- A case appended to the last state. -/
theorem PrV.case {B : Nat} {W W' : World} {sg cap : Nat} {cv : Nat → Value} {ini : List StD} {s : StD} (h : PrV B W (.slice (some ⟨sg, 0, none⟩) (ini.length + 1) cap) cv (ini ++ [s])) {c : CaseD} {g' cap' : Nat}
    (own : W'.ownsRow B 47 4 (.slice (some ⟨g', 0, none⟩) (s.cases.length + 1) cap') (s.cases.length + 1) (csCells s.cases ++ csCells [c])) (gr : W.grownBy W' (cv ini.length).ownBlock) (hat : (cv ini.length).ownBlock = some g' ∨ W.heap.size ≤ g') :
    PrV B (W'.setCell ⟨sg, ini.length * 10, none⟩ (.slice (some ⟨g', 0, none⟩) (s.cases.length + 1) cap')) (.slice (some ⟨sg, 0, none⟩) (ini.length + 1) cap) (updV cv ini.length (.slice (some ⟨g', 0, none⟩) (s.cases.length + 1) cap')) (ini ++ [{ s with cases := s.cases ++ [c] }]) := by
  have hn : ini.length < (ini ++ [s]).length := by simp
  have hsg := (h.lt (b := sg) (.inl rfl)).2
  have hgs : g' ≠ sg := by
    intro e
    subst e
    rcases hat with hat | hat
    · exact (h.apart ini.length hn _ hat).1 rfl
    · omega
  have hrow : W'.ownsRow B 45 10 (.slice (some ⟨sg, 0, none⟩) (ini.length + 1) cap) (ini ++ [s]).length (stsCells cv (ini ++ [s])) := ownsRow_keep h.row fun b hb => gr.block b (by simp [Value.ownBlock] at hb; omega) (fun e => by
    have := (h.apart ini.length hn b e.symm).1
    exact this hb)
  rw [stsCells_app, List.length_append] at hrow
  replace hrow : W'.ownsRow B 45 10 (.slice (some ⟨sg, 0, none⟩) (ini.length + 1) cap) (ini.length + 1) (stsCells cv ini ++ stCells (cv ini.length) s) := hrow
  have h1 := (hrow.stored (ini.length * 10) (.slice (some ⟨g', 0, none⟩) (s.cases.length + 1) cap')).1
  have hl := stsCells_len cv ini
  rw [List.set_append_right _ _ (by omega), show ini.length * 10 - (stsCells cv ini).length = 0 by omega] at h1
  have blk : ∀ i, i < ini.length → ∀ b, (cv i).ownBlock = some b → (W'.setCell ⟨sg, ini.length * 10, none⟩ (.slice (some ⟨g', 0, none⟩) (s.cases.length + 1) cap')).heap[b]? = W.heap[b]? := fun i hi b hb => by
    have ha := h.apart i (by simp; omega) b hb
    rw [heap_setCell_other _ _ _ _ (fun e => by simp only at e; rw [← e] at ha; exact ha.1 rfl)]
    exact gr.block b (h.lt (.inr ⟨i, by simp; omega, hb⟩)).2 (fun e => ha.2 ini.length hn (by omega) e.symm)
  refine ⟨?_, fun i hi => ?_, fun i hi b hb => ?_⟩
  · rw [stsCells_app, updV_same, stsCells_congr (cv' := cv) ini (fun i hi => updV_ne cv _ (by omega))]
    simpa [stCells] using h1
  · rcases getLast_at ini _ i hi with ⟨hj, e⟩ | ⟨rfl, e⟩
    · rw [e, updV_ne cv _ (by omega)]
      have hk := h.cas i (by simp; omega)
      rcases getLast_at ini s i (by simp; omega) with ⟨_, e2⟩ | ⟨e3, _⟩
      · rw [e2] at hk
        exact ownsRow_keep hk (blk i hj)
      · omega
    · rw [e, updV_same]
      have := ownsRow_keep (w' := W'.setCell ⟨sg, ini.length * 10, none⟩ (.slice (some ⟨g', 0, none⟩) (s.cases.length + 1) cap')) own (fun b hb => heap_setCell_other _ _ _ _ (fun e => by
        simp [Value.ownBlock] at hb
        simp only at e
        omega))
      rw [csCells_app, List.length_append]
      exact this
  · rcases getLast_at ini _ i hi with ⟨hj, _⟩ | ⟨rfl, _⟩
    · rw [updV_ne cv _ (by omega)] at hb
      have ha := h.apart i (by simp; omega) b hb
      have hlt := (h.lt (.inr ⟨i, by simp; omega, hb⟩)).2
      refine ⟨ha.1, fun j hj2 hne => ?_⟩
      rcases getLast_at ini _ j hj2 with ⟨hj3, _⟩ | ⟨rfl, _⟩
      · rw [updV_ne cv _ (by omega)]
        exact ha.2 j (by simp; omega) hne
      · rw [updV_same]
        intro e
        simp [Value.ownBlock] at e
        subst e
        rcases hat with hat | hat
        · exact ha.2 ini.length hn (by omega) hat
        · omega
    · rw [updV_same] at hb
      simp [Value.ownBlock] at hb
      subst hb
      refine ⟨by simp [Value.ownBlock]; omega, fun j hj2 hne => ?_⟩
      rcases getLast_at ini _ j hj2 with ⟨hj3, _⟩ | ⟨e3, _⟩
      · rw [updV_ne cv _ (by omega)]
        intro e
        have hlt := (h.lt (.inr ⟨j, by simp; omega, e⟩)).2
        rcases hat with hat | hat
        · exact (h.apart j (by simp; omega) _ e).2 ini.length hn (by omega) hat
        · omega
      · exact absurd e3 hne
end Go.Proofs.YtipndbhedaknnaaDoor
