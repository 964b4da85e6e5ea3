import Derived.Test.YtipndbhedaknnaaDoorPrg
import Derived.Test.YtipndbhedaknnaaDoorScrM
namespace Go.Proofs.YtipndbhedaknnaaDoor
open Go.RowKit
attribute [local go_sem ↓] Go.wp_at_zero Go.wp_at_succ

/- PROGRAMS COMPARED. -/
theorem csCells_get (cs : List CaseD) : ∀ i (h : i < cs.length), (csCells cs)[i * 4]? = some (strV cs[i].pat) ∧ (csCells cs)[i * 4 + 1]? = some (.int .i64 cs[i].act.go) ∧ (csCells cs)[i * 4 + 2]? = some (.int .i64 cs[i].act.ex) ∧ (csCells cs)[i * 4 + 3]? = some (strV cs[i].act.send) := by
  induction cs with
  | nil => intro i h; exact absurd h (Nat.not_lt_zero _)
  | cons a t ih =>
    intro i h
    match i with
    | 0 => exact ⟨rfl, rfl, rfl, rfl⟩
    | i + 1 =>
      have := ih i (by simpa using h)
      have e1 : (i + 1) * 4 = i * 4 + 1 + 1 + 1 + 1 := by omega
      rw [e1]
      simpa [csCells] using this
/-- A slice of cases, read. -/
def CsR (w : World) (v : Value) (cs : List CaseD) : Prop := ∃ ao cap, v = .slice ao cs.length cap ∧ ∀ i (h : i < cs.length), ∃ b, ao = some ⟨b, 0, none⟩ ∧ b < w.heap.size ∧
  w.cell? ⟨b, i * 4, none⟩ = some (strV cs[i].pat) ∧ w.cell? ⟨b, i * 4 + 1, none⟩ = some (.int .i64 cs[i].act.go) ∧ w.cell? ⟨b, i * 4 + 2, none⟩ = some (.int .i64 cs[i].act.ex) ∧ w.cell? ⟨b, i * 4 + 3, none⟩ = some (strV cs[i].act.send)
theorem CsR.of {B : Nat} {w : World} {v : Value} {cs : List CaseD} (h : w.ownsRow B 47 4 v cs.length (csCells cs)) : CsR w v cs := by
  have h' := h
  obtain ⟨h1, h2⟩ := h
  rcases h2 with ⟨rfl, h0⟩ | ⟨g, cap, cur, rfl, hg, hh, r⟩
  · exact ⟨none, 0, by rw [h0], fun i hi => by omega⟩
  · refine ⟨_, _, rfl, fun i hi => ⟨g, rfl, (Array.getElem?_eq_some_iff.1 hh).1, ?_, ?_, ?_, ?_⟩⟩
    · rw [h'.cellAt (i * 4) (by omega)]; exact (csCells_get cs i hi).1
    · rw [h'.cellAt (i * 4 + 1) (by omega)]; exact (csCells_get cs i hi).2.1
    · rw [h'.cellAt (i * 4 + 2) (by omega)]; exact (csCells_get cs i hi).2.2.1
    · rw [h'.cellAt (i * 4 + 3) (by omega)]; exact (csCells_get cs i hi).2.2.2
theorem CsR.below {w w' : World} {v : Value} {cs : List CaseD} (h : CsR w v cs) (hb : Below w.heap.size w w') : CsR w' v cs := by
  obtain ⟨ao, cap, hv, hc⟩ := h
  refine ⟨ao, cap, hv, fun i hi => ?_⟩
  obtain ⟨b, e, hl, c0, c1, c2, c3⟩ := hc i hi
  exact ⟨b, e, Nat.lt_of_lt_of_le hl hb.size, (hb.cell (by exact hl)).trans c0, (hb.cell (by exact hl)).trans c1, (hb.cell (by exact hl)).trans c2, (hb.cell (by exact hl)).trans c3⟩
theorem stsCells_get (cv : Nat → Value) (ss : List StD) : ∀ i (h : i < ss.length) c, c < 10 → (stsCells cv ss)[i * 10 + c]? = (stCells (cv i) ss[i])[c]? := by
  induction ss generalizing cv with
  | nil => intro i h; exact absurd h (Nat.not_lt_zero _)
  | cons a t ih =>
    intro i h c hc
    have hl : (stCells (cv 0) a).length = 10 := rfl
    match i with
    | 0 =>
      rw [stsCells, List.getElem?_append_left (by omega)]
      simp
    | i + 1 =>
      have := ih (fun i => cv (i + 1)) i (by simpa using h) c hc
      rw [stsCells, List.getElem?_append_right (by omega), hl, show (i + 1) * 10 + c - 10 = i * 10 + c by omega, this]
      rfl
/-- A slice of states, read. -/
def StR (w : World) (v : Value) (cv : Nat → Value) (ss : List StD) : Prop := ∃ ao cap, v = .slice ao ss.length cap ∧ ∀ i (h : i < ss.length), (∃ b, ao = some ⟨b, 0, none⟩ ∧ b < w.heap.size ∧ ∀ c, c < 10 → w.cell? ⟨b, i * 10 + c, none⟩ = (stCells (cv i) ss[i])[c]?) ∧ CsR w (cv i) ss[i].cases
theorem StR.of {B : Nat} {w : World} {v : Value} {cv : Nat → Value} {ss : List StD} (h : PrV B w v cv ss) : StR w v cv ss := by
  have h' := h.row
  obtain ⟨h1, h2⟩ := h.row
  rcases h2 with ⟨rfl, h0⟩ | ⟨g, cap, cur, rfl, hg, hh, r⟩
  · exact ⟨none, 0, by rw [h0], fun i hi => by omega⟩
  · refine ⟨_, _, rfl, fun i hi => ⟨⟨g, rfl, (Array.getElem?_eq_some_iff.1 hh).1, fun c hc => ?_⟩, CsR.of (h.cas i hi)⟩⟩
    rw [h'.cellAt (i * 10 + c) (by omega)]; exact stsCells_get cv ss i hi c hc
theorem StR.below {w w' : World} {v : Value} {cv : Nat → Value} {ss : List StD} (h : StR w v cv ss) (hb : Below w.heap.size w w') : StR w' v cv ss := by
  obtain ⟨ao, cap, hv, hc⟩ := h
  refine ⟨ao, cap, hv, fun i hi => ?_⟩
  obtain ⟨⟨b, e, hl, c0⟩, k⟩ := hc i hi
  exact ⟨⟨b, e, Nat.lt_of_lt_of_le hl hb.size, fun c hcc => (hb.cell (by exact hl)).trans (c0 c hcc)⟩, k.below hb⟩

set_option maxHeartbeats 400000 in
theorem eqAction_ok (go ex : Int) (d : ByteArray) (w : World) :
    Calls Tryd.prog 55 #[.agg #[.int .i64 go, .int .i64 ex, .string d], .agg #[.int .i64 go, .int .i64 ex, .string d]] w fun e w' => e = .returned (.bool true) ∧ Below w.heap.size w w' := by
  have e1 : (go != go) = false := by simp
  have e2 : (ex != ex) = false := by simp
  go_enter Tryd.func55, Tryd.ntmps55
  go_wp2
  go_ret
  exact ⟨rfl, ((Below.refl _ _).alloc (Nat.le_refl _) _).alloc (by simp) _⟩
set_option maxHeartbeats 400000 in
theorem eqCase_ok (p : ByteArray) (go ex : Int) (d : ByteArray) (w : World) :
    Calls Tryd.prog 64 #[.agg #[.string p, .int .i64 go, .int .i64 ex, .string d], .agg #[.string p, .int .i64 go, .int .i64 ex, .string d]] w fun e w' => e = .returned (.bool true) ∧ Below w.heap.size w w' := by
  go_enter Tryd.func64, Tryd.ntmps64
  go_wp2_with (go_at_call 55; refine (eqAction_ok _ _ _ _).mono ?_; rintro e w2 ⟨rfl, hb2⟩)
  go_ret
  exact ⟨rfl, below_step (((Below.refl _ _).alloc (Nat.le_refl _) _).alloc (by simp) _) (by simp; omega) hb2⟩
set_option maxRecDepth 100000 in
set_option maxHeartbeats 1000000 in
theorem eqCaseS_ok (v v2 : Value) (cs : List CaseD) (w : World) (hs : CsR w v cs) (hs2 : CsR w v2 cs) (hn : cs.length ≤ 1048576) :
    Calls Tryd.prog 54 #[v, v2] w fun e w' => e = .returned (.bool true) ∧ Below w.heap.size w w' := by
  obtain ⟨ao, cap, rfl, hc⟩ := hs
  obtain ⟨ao2, cap2, rfl, hc2⟩ := hs2
  go_enter Tryd.func54, Tryd.ntmps54
  go_wp2
  go_loopw [5] (fun i wr => ∃ k : Nat, k ≤ cs.length ∧ i = .int .i64 k ∧ Below w.heap.size w wr)
    (fun i _ => cs.length - (intOf i).toNat)
  case atStart => exact ⟨0, Nat.zero_le _, rfl, Below.refl _ _⟩
  case round =>
    obtain ⟨k, hk, rfl, hb⟩ := hrel
    by_cases hlt : k < cs.length
    · obtain ⟨b, rfl, hbl, c0, c1, c2, c3⟩ := hc k hlt
      obtain ⟨b2, rfl, hbl2, d0, d1, d2, d3⟩ := hc2 k hlt
      clear hc hc2
      generalize cs[k] = cd at *
      obtain ⟨pat, go, ex, send⟩ := cd
      dsimp only at c0 c1 c2 c3 d0 d1 d2 d3
      unfold strV at c0 c3 d0 d3
      obtain ⟨db, hdb⟩ : ∃ db : ByteArray, db = ⟨send.toArray⟩ := ⟨_, rfl⟩
      obtain ⟨pb, hpb⟩ : ∃ pb : ByteArray, pb = ⟨pat.toArray⟩ := ⟨_, rfl⟩
      rw [← hdb] at c3 d3
      rw [← hpb] at c0 d0
      clear hdb hpb
      replace c0 := (hb.cell (by exact hbl)).trans c0
      replace d0 := (hb.cell (by exact hbl2)).trans d0
      replace c1 := (hb.cell (by exact hbl)).trans c1
      replace d1 := (hb.cell (by exact hbl2)).trans d1
      replace c2 := (hb.cell (by exact hbl)).trans c2
      replace d2 := (hb.cell (by exact hbl2)).trans d2
      replace c3 := (hb.cell (by exact hbl)).trans c3
      replace d3 := (hb.cell (by exact hbl2)).trans d3
      have hbr : b < wr.heap.size := Nat.lt_of_lt_of_le hbl hb.size
      have hbr2 : b2 < wr.heap.size := Nat.lt_of_lt_of_le hbl2 hb.size
      have hi0 : (0 : Int) ≤ (k : Int) := by omega
      have hi1 : (k : Int) < (cs.length : Int) := by omega
      go_wp2
      go_region_held3 (fun w' => w'.cell? ⟨b, k * 4, none⟩ = some (.string pb) ∧ w'.cell? ⟨b, k * 4 + 1, none⟩ = some (.int .i64 go) ∧ w'.cell? ⟨b, k * 4 + 2, none⟩ = some (.int .i64 ex) ∧ w'.cell? ⟨b, k * 4 + 3, none⟩ = some (.string db) ∧ w'.cell? ⟨b2, k * 4, none⟩ = some (.string pb) ∧ w'.cell? ⟨b2, k * 4 + 1, none⟩ = some (.int .i64 go) ∧ w'.cell? ⟨b2, k * 4 + 2, none⟩ = some (.int .i64 ex) ∧ w'.cell? ⟨b2, k * 4 + 3, none⟩ = some (.string db)) ((first | go_keep | exact ⟨(hb2.cell (by exact hbr)).trans c0, (hb2.cell (by exact hbr)).trans c1, (hb2.cell (by exact hbr)).trans c2, (hb2.cell (by exact hbr)).trans c3, (hb2.cell (by exact hbr2)).trans d0, (hb2.cell (by exact hbr2)).trans d1, (hb2.cell (by exact hbr2)).trans d2, (hb2.cell (by exact hbr2)).trans d3⟩)) ((go_at_call 64; refine (eqCase_ok _ _ _ _ _).mono ?_; rintro e w2 ⟨rfl, hb2⟩))
      go_wp2
      go_roundw
      case rel => exact ⟨k + 1, by omega, by go_num, below_step hb.drew hb.size hb2⟩
      case measure => simp [intOf]; omega
    · go_wp2
      go_ret
      exact ⟨rfl, hb⟩
end Go.Proofs.YtipndbhedaknnaaDoor
