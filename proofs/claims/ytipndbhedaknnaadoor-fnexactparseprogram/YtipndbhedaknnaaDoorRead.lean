import Derived.Test.YtipndbhedaknnaaDoorAct
import Derived.Test.YtipndbhedaknnaaDoorScr
namespace Go.Proofs.YtipndbhedaknnaaDoor
open Go.RowKit
attribute [local go_sem ↓] Go.wp_at_zero Go.wp_at_succ

/- ONE LINE OF A PROGRAM. -/
structure LineD where
  key : Int
  x : Int
  y : Int
  text : List UInt8
  act : ActD
def LineD.zero : LineD := ⟨0, 0, 0, [], .zero⟩
def lineV (l : LineD) : Value := .agg #[.int .u8 l.key, .int .i64 l.x, .int .i64 l.y, strV l.text, .int .i64 l.act.go, .int .i64 l.act.ex, strV l.act.send]
def readL (fs : List (List UInt8)) : LineD × Bool :=
  if fs.getD 0 [] = [108, 105, 109, 105, 116] ∧ fs.length = 3 then (⟨108, numF (fs.getD 1 []), numF (fs.getD 2 []), [], .zero⟩, btw (numF (fs.getD 1 [])) 1 4096 && btw (numF (fs.getD 2 [])) 1 4000)
  else if fs.getD 0 [] = [115, 116, 97, 116, 101] ∧ fs.length = 2 then (⟨115, numF (fs.getD 1 []), 0, [], .zero⟩, btw (numF (fs.getD 1 [])) 0 255)
  else if fs.getD 0 [] = [111, 110] ∧ fs.length = 4 then (⟨111, 0, 0, optL (wordF (fs.getD 1 [])), (actF (fs.getD 2 []) (fs.getD 3 [])).1⟩, (wordF (fs.getD 1 [])).isSome && (actF (fs.getD 2 []) (fs.getD 3 [])).2)
  else if fs.getD 0 [] = [116, 105, 109, 101, 111, 117, 116] ∧ fs.length = 4 then (⟨116, numF (fs.getD 1 []), 0, [], (actF (fs.getD 2 []) (fs.getD 3 [])).1⟩, (actF (fs.getD 2 []) (fs.getD 3 [])).2 && btw (numF (fs.getD 1 [])) 1 10000)
  else if fs.getD 0 [] = [102, 117, 108, 108] ∧ fs.length = 3 then (⟨102, 0, 0, [], (actF (fs.getD 1 []) (fs.getD 2 [])).1⟩, (actF (fs.getD 1 []) (fs.getD 2 [])).2)
  else (.zero, false)
def readF (raw : List UInt8) : LineD × Bool := readL (cutF 32 raw)
theorem eq_of {fb : ByteArray} {l : List UInt8} (c : List UInt8) (h : l = fb.data.toList) (b : Bool) (hb : (fb.toList == c) = b) : decide (l = c) = b := by
  rw [toList_eq, ← h] at hb
  rw [← hb]
  by_cases hx : l = c
  · rw [hx, decide_eq_true rfl]
    symm
    exact beq_self_eq_true c
  · rw [decide_eq_false hx]
    symm
    exact beq_eq_false_iff_ne.2 hx
theorem beq_of {fb : ByteArray} {l c : List UInt8} (h : l = fb.data.toList) (hc : l = c) : (fb.toList == c) = true := by
  rw [toList_eq, ← h, hc]; exact beq_self_eq_true c
theorem beq_not {fb : ByteArray} {l c : List UInt8} (h : l = fb.data.toList) (hc : ¬l = c) : (fb.toList == c) = false := by
  rw [toList_eq, ← h]; exact beq_eq_false_iff_ne.2 hc
theorem below_set7 {B g : Nat} {w W : World} (h : Below B w W) (hg : B ≤ g) (v0 v1 v2 v3 v4 v5 v6 : Value) :
    Below B w (((((((W.setCell ⟨g, 0, none⟩ v0).setCell ⟨g, 1, none⟩ v1).setCell ⟨g, 2, none⟩ v2).setCell ⟨g, 3, none⟩ v3).setCell ⟨g, 4, none⟩ v4).setCell ⟨g, 5, none⟩ v5).setCell ⟨g, 6, none⟩ v6) :=
  ((((((h.setCell (by exact hg) _).setCell (by exact hg) _).setCell (by exact hg) _).setCell (by exact hg) _).setCell (by exact hg) _).setCell (by exact hg) _).setCell (by exact hg) _
theorem below_set3 {B g : Nat} {w W : World} (h : Below B w W) (hg : B ≤ g) (v0 v1 v2 : Value) :
    Below B w (((W.setCell ⟨g, 0, none⟩ v0).setCell ⟨g, 1, none⟩ v1).setCell ⟨g, 2, none⟩ v2) :=
  ((h.setCell (by exact hg) _).setCell (by exact hg) _).setCell (by exact hg) _
theorem pick_alloc {w w3 : World} {C : Array Value} {t : TypeId} (hb : Below (w.alloc (.cells C t)).drew.heap.size (w.alloc (.cells C t)).drew w3) : w3.heap[w.heap.size]? = some (.cells C t (0, 0)) ∧ Below w.heap.size w w3 :=
  ⟨row_below (row_drew (heap_alloc_new w _)) hb, ((Below.refl w.heap.size w).alloc (Nat.le_refl _) _).drew.trans (hb.mono (by simp))⟩
theorem pick_call {w w3 : World} (hb : Below w.drew.heap.size w.drew w3) : Below w.heap.size w w3 := (Below.refl w.heap.size w).drew.trans hb
/-- Behind the reading of an action: its block, and the line's. -/
structure ActW (w W : World) (ga : Nat) (go ex : Int) (sb : ByteArray) : Prop where
  below : Below w.heap.size w W
  row : W.heap[w.heap.size]? = some (.cells #[.int .u8 0, .int .i64 0, .int .i64 0, .string ⟨#[]⟩, .int .i64 0, .int .i64 0, .string ⟨#[]⟩] 40 (0, 0))
  act : W.heap[ga]? = some (.cells #[.int .i64 go, .int .i64 ex, .string sb] 38 (0, 0))
  gt : w.heap.size < ga
theorem ActW.alloc {w w3 : World} {go ex : Int} {sb : ByteArray} (hb : Below w.heap.size w w3) (r : w3.heap[w.heap.size]? = some (.cells #[.int .u8 0, .int .i64 0, .int .i64 0, .string ⟨#[]⟩, .int .i64 0, .int .i64 0, .string ⟨#[]⟩] 40 (0, 0))) :
    ActW w (w3.alloc (.cells #[.int .i64 go, .int .i64 ex, .string sb] 38)) w3.heap.size go ex sb := ⟨hb.alloc hb.size _, row_alloc r, heap_alloc_new _ _, row_lt r⟩
theorem ActW.set {w w3 : World} {ga : Nat} {go ex : Int} {sb : ByteArray} {C : Array Value} (hb : Below w.heap.size w w3) (r : w3.heap[w.heap.size]? = some (.cells #[.int .u8 0, .int .i64 0, .int .i64 0, .string ⟨#[]⟩, .int .i64 0, .int .i64 0, .string ⟨#[]⟩] 40 (0, 0)))
    (hg : w.heap.size < ga) (y : w3.heap[ga]? = some (.cells C 38 (0, 0))) (hC : C.size = 3) :
    ActW w (((w3.setCell ⟨ga, 0, none⟩ (.int .i64 go)).setCell ⟨ga, 1, none⟩ (.int .i64 ex)).setCell ⟨ga, 2, none⟩ (.string sb)) ga go ex sb := by
  have hl : w.heap.size ≤ ga := by omega
  refine ⟨((hb.setCell (by exact hl) _).setCell (by exact hl) _).setCell (by exact hl) _, ?_, ?_, hg⟩
  · rw [heap_setCell_other _ _ _ _ (by simp; omega), heap_setCell_other _ _ _ _ (by simp; omega), heap_setCell_other _ _ _ _ (by simp; omega)]
    exact r
  · rw [heap_setCell_same _ _ 2 _ _ _ (heap_setCell_same _ _ 1 _ _ _ (heap_setCell_same _ _ 0 _ _ _ y))]
    congr 2
    match C, hC with
    | ⟨[a, b, c]⟩, _ => rfl
/-- The cell of a field, as a letter. -/
theorem Strs.field {B g cap : Nat} {w : World} {ls : List (List UInt8)} (h : Strs B w g cap ls) {n : Nat} (hn : Hid (∀ l ∈ ls, l.length ≤ n)) {j : Nat} (hj : j < ls.length) :
    ∃ b : ByteArray, w.cell? ⟨g, j, none⟩ = some (.string b) ∧ ls.getD j [] = b.data.toList ∧ b.size ≤ n := by
  refine ⟨⟨ls[j].toArray⟩, h.cell hj, ?_, ?_⟩
  · rw [List.getD_eq_getElem?_getD, List.getElem?_eq_getElem hj]; rfl
  · have := hn.out ls[j] (List.getElem_mem hj)
    show ls[j].toArray.size ≤ n
    simpa using this

set_option maxRecDepth 100000 in
set_option maxHeartbeats 4000000 in
theorem l5Read_ok (raw : ByteArray) (w : World) (hsz : raw.size ≤ 20000) :
    Calls Tryd.prog 16 #[.string raw] w fun e w' => e = .returned (.tuple #[lineV (readF raw.data.toList).1, .bool (readF raw.data.toList).2]) ∧ Below w.heap.size w w' := by
  have r0 : (w.alloc (.cells #[.int .u8 0, .int .i64 0, .int .i64 0, .string ⟨#[]⟩, .int .i64 0, .int .i64 0, .string ⟨#[]⟩] 40)).heap[w.heap.size]? = some (.cells #[.int .u8 0, .int .i64 0, .int .i64 0, .string ⟨#[]⟩, .int .i64 0, .int .i64 0, .string ⟨#[]⟩] 40 (0, 0)) := heap_alloc_new _ _
  have hb0 : Below w.heap.size w (w.alloc (.cells #[.int .u8 0, .int .i64 0, .int .i64 0, .string ⟨#[]⟩, .int .i64 0, .int .i64 0, .string ⟨#[]⟩] 40)) := (Below.refl _ _).alloc (Nat.le_refl _) _
  go_enter Tryd.func16, Tryd.ntmps16
  go_wp2_with fail
  refine (l5Split_ok raw 32 _ _ rfl (by omega)).mono ?_
  rintro e w1 ⟨fg, fcap, rfl, hf, hb1⟩
  have r1 := row_below r0 hb1
  have hbb := below_step hb0 hb0.size hb1
  clear r0 hb0 hb1
  have hwz := hbb.size
  have hwl : w.heap.size < w1.heap.size := row_lt r1
  obtain ⟨hfg, hfgl, _, _⟩ := own_form hf
  have hfg' : w.heap.size < fg := by simp at hfg; omega
  clear hfg
  have HR : Hid (readF raw.data.toList = readL (cutF 32 raw.data.toList)) := rfl
  have hfl := (cutF_len 32 raw.data.toList).1
  have hfe : Hid (∀ l ∈ cutF 32 raw.data.toList, l.length ≤ 20000) := by
    intro l hl
    have := cutF_each 32 _ l hl
    rw [Array.length_toList] at this
    exact Nat.le_trans this hsz
  generalize cutF 32 raw.data.toList = fs at *
  obtain ⟨k0, d0, e0, s0⟩ := hf.field hfe (j := 0) hfl
  have hj0 : (0 : Int) < (fs.length : Int) := by omega
  have R1 := r1
  have cs := row_cells r1
  have c0 := cs 0; have c1 := cs 1; have c2 := cs 2; have c3 := cs 3; have c4 := cs 4; have c5 := cs 5; have c6 := cs 6
  have f0 := frozen_of_row _ _ 0 _ _ r1
  have f1 := frozen_of_row _ _ 1 _ _ r1
  have f2 := frozen_of_row _ _ 2 _ _ r1
  have f3 := frozen_of_row _ _ 3 _ _ r1
  have f4 := frozen_of_row _ _ 4 _ _ r1
  have f5 := frozen_of_row _ _ 5 _ _ r1
  have f6 := frozen_of_row _ _ 6 _ _ r1
  simp at c0 c1 c2 c3 c4 c5 c6
  clear r1 cs
  by_cases z1 : fs.getD 0 [] = [108, 105, 109, 105, 116]
  · have q1 := beq_of e0 z1
    have q2 : (k0.toList == [115, 116, 97, 116, 101]) = false := by rw [beq_iff_eq.1 q1]; rfl
    have q3 : (k0.toList == [111, 110]) = false := by rw [beq_iff_eq.1 q1]; rfl
    have q4 : (k0.toList == [116, 105, 109, 101, 111, 117, 116]) = false := by rw [beq_iff_eq.1 q1]; rfl
    have q5 : (k0.toList == [102, 117, 108, 108]) = false := by rw [beq_iff_eq.1 q1]; rfl
    by_cases hl : fs.length = 3
    case neg =>
      have hl' : ¬(fs.length : Int) = 3 := by omega
      have HL : Hid (readL fs = (.zero, false)) := by
        show _ = _
        unfold readL
        rw [if_neg (fun h => hl h.2), if_neg (fun h => by rw [z1] at h; exact absurd h.1 (by decide)), if_neg (fun h => by rw [z1] at h; exact absurd h.1 (by decide)), if_neg (fun h => by rw [z1] at h; exact absurd h.1 (by decide)), if_neg (fun h => by rw [z1] at h; exact absurd h.1 (by decide))]
      clear hl z1 e0 hfe
      go_wp2
      exact bodyPost_ret (v := .tuple #[.agg #[.int .u8 0, .int .i64 0, .int .i64 0, .string ⟨#[]⟩, .int .i64 0, .int .i64 0, .string ⟨#[]⟩], .bool false]) (by simp [results, Tryd.results16, go_sem, c0, c1, c2, c3, c4, c5, c6]) rfl ⟨by rw [HR.out, HL.out]; rfl, below_set7 hbb (Nat.le_refl _) _ _ _ _ _ _ _⟩
    obtain ⟨k1, d1, e1, s1⟩ := hf.field hfe (j := 1) (by omega)
    obtain ⟨k2, d2, e2, s2⟩ := hf.field hfe (j := 2) (by omega)
    have hj1 : (1 : Int) < (fs.length : Int) := by omega
    have hj2 : (2 : Int) < (fs.length : Int) := by omega
    have hl' : (fs.length : Int) = 3 := by omega
    have HL : Hid (readL fs = (⟨108, numF k1.data.toList, numF k2.data.toList, [], .zero⟩, btw (numF k1.data.toList) 1 4096 && btw (numF k2.data.toList) 1 4000)) := by
      show _ = _
      unfold readL
      rw [if_pos ⟨z1, hl⟩, e1, e2]
    clear hl e0 e1 e2 hfe
    cases hb1 : btw (numF k1.data.toList) 1 4096
    all_goals
      go_wp2_with fail
      refine (l5Number_ok k1 _ (by omega)).mono ?_
      rintro e w' ⟨rfl, hw'⟩
      subst w'
      go_wp2_with fail
      refine (l5Number_ok k2 _ (by omega)).mono ?_
      rintro e w' ⟨rfl, hw'⟩
      subst w'
      go_wp2_with (go_at_call 33; refine (between_ok _ _ _ _).mono ?_; rintro e w' ⟨rfl, hw'⟩; subst w')
      first
        | exact bodyPost_ret (v := .tuple #[.agg #[.int .u8 108, .int .i64 (numF k1.data.toList), .int .i64 (numF k2.data.toList), .string ⟨#[]⟩, .int .i64 0, .int .i64 0, .string ⟨#[]⟩], .bool (btw (numF k2.data.toList) 1 4000)]) (by simp [results, Tryd.results16, go_sem, c0, c1, c2, c3, c4, c5, c6]) rfl ⟨by rw [HR.out, HL.out]; rw [hb1]; rfl, below_set7 hbb (Nat.le_refl _) _ _ _ _ _ _ _⟩
        | exact bodyPost_ret (v := .tuple #[.agg #[.int .u8 108, .int .i64 (numF k1.data.toList), .int .i64 (numF k2.data.toList), .string ⟨#[]⟩, .int .i64 0, .int .i64 0, .string ⟨#[]⟩], .bool false]) (by simp [results, Tryd.results16, go_sem, c0, c1, c2, c3, c4, c5, c6]) rfl ⟨by rw [HR.out, HL.out]; rw [hb1]; rfl, below_set7 hbb (Nat.le_refl _) _ _ _ _ _ _ _⟩
  have q1 := beq_not e0 z1
  by_cases z2 : fs.getD 0 [] = [115, 116, 97, 116, 101]
  · have q2 := beq_of e0 z2
    have q3 : (k0.toList == [111, 110]) = false := by rw [beq_iff_eq.1 q2]; rfl
    have q4 : (k0.toList == [116, 105, 109, 101, 111, 117, 116]) = false := by rw [beq_iff_eq.1 q2]; rfl
    have q5 : (k0.toList == [102, 117, 108, 108]) = false := by rw [beq_iff_eq.1 q2]; rfl
    by_cases hl : fs.length = 2
    case neg =>
      have hl' : ¬(fs.length : Int) = 2 := by omega
      have HL : Hid (readL fs = (.zero, false)) := by
        show _ = _
        unfold readL
        rw [if_neg (fun h => z1 h.1), if_neg (fun h => hl h.2), if_neg (fun h => by rw [z2] at h; exact absurd h.1 (by decide)), if_neg (fun h => by rw [z2] at h; exact absurd h.1 (by decide)), if_neg (fun h => by rw [z2] at h; exact absurd h.1 (by decide))]
      clear hl z2 e0 hfe
      go_wp2
      exact bodyPost_ret (v := .tuple #[.agg #[.int .u8 0, .int .i64 0, .int .i64 0, .string ⟨#[]⟩, .int .i64 0, .int .i64 0, .string ⟨#[]⟩], .bool false]) (by simp [results, Tryd.results16, go_sem, c0, c1, c2, c3, c4, c5, c6]) rfl ⟨by rw [HR.out, HL.out]; rfl, below_set7 hbb (Nat.le_refl _) _ _ _ _ _ _ _⟩
    obtain ⟨k1, d1, e1, s1⟩ := hf.field hfe (j := 1) (by omega)
    have hj1 : (1 : Int) < (fs.length : Int) := by omega
    have hl' : (fs.length : Int) = 2 := by omega
    have HL : Hid (readL fs = (⟨115, numF k1.data.toList, 0, [], .zero⟩, btw (numF k1.data.toList) 0 255)) := by
      show _ = _
      unfold readL
      rw [if_neg (fun h => z1 h.1), if_pos ⟨z2, hl⟩, e1]
    clear hl e0 e1 hfe
    go_wp2_with fail
    refine (l5Number_ok k1 _ (by omega)).mono ?_
    rintro e w' ⟨rfl, hw'⟩
    subst w'
    go_wp2_with (go_at_call 33; refine (between_ok _ _ _ _).mono ?_; rintro e w' ⟨rfl, hw'⟩; subst w')
    exact bodyPost_ret (v := .tuple #[.agg #[.int .u8 115, .int .i64 (numF k1.data.toList), .int .i64 0, .string ⟨#[]⟩, .int .i64 0, .int .i64 0, .string ⟨#[]⟩], .bool (btw (numF k1.data.toList) 0 255)]) (by simp [results, Tryd.results16, go_sem, c0, c1, c2, c3, c4, c5, c6]) rfl ⟨by rw [HR.out, HL.out]; rfl, below_set7 hbb (Nat.le_refl _) _ _ _ _ _ _ _⟩
  have q2 := beq_not e0 z2
  by_cases z3 : fs.getD 0 [] = [111, 110]
  · have q3 := beq_of e0 z3
    have q4 : (k0.toList == [116, 105, 109, 101, 111, 117, 116]) = false := by rw [beq_iff_eq.1 q3]; rfl
    have q5 : (k0.toList == [102, 117, 108, 108]) = false := by rw [beq_iff_eq.1 q3]; rfl
    by_cases hl : fs.length = 4
    case neg =>
      have hl' : ¬(fs.length : Int) = 4 := by omega
      have HL : Hid (readL fs = (.zero, false)) := by
        show _ = _
        unfold readL
        rw [if_neg (fun h => z1 h.1), if_neg (fun h => z2 h.1), if_neg (fun h => hl h.2), if_neg (fun h => by rw [z3] at h; exact absurd h.1 (by decide)), if_neg (fun h => by rw [z3] at h; exact absurd h.1 (by decide))]
      clear hl z3 e0 hfe
      go_wp2
      exact bodyPost_ret (v := .tuple #[.agg #[.int .u8 0, .int .i64 0, .int .i64 0, .string ⟨#[]⟩, .int .i64 0, .int .i64 0, .string ⟨#[]⟩], .bool false]) (by simp [results, Tryd.results16, go_sem, c0, c1, c2, c3, c4, c5, c6]) rfl ⟨by rw [HR.out, HL.out]; rfl, below_set7 hbb (Nat.le_refl _) _ _ _ _ _ _ _⟩
    obtain ⟨k1, d1, e1, s1⟩ := hf.field hfe (j := 1) (by omega)
    obtain ⟨k2, d2, e2, s2⟩ := hf.field hfe (j := 2) (by omega)
    obtain ⟨k3, d3, e3, s3⟩ := hf.field hfe (j := 3) (by omega)
    have hj1 : (1 : Int) < (fs.length : Int) := by omega
    have hj2 : (2 : Int) < (fs.length : Int) := by omega
    have hj3 : (3 : Int) < (fs.length : Int) := by omega
    have hl' : (fs.length : Int) = 4 := by omega
    have HL : Hid (readL fs = (⟨111, 0, 0, optL (wordF k1.data.toList), (actF k2.data.toList k3.data.toList).1⟩, (wordF k1.data.toList).isSome && (actF k2.data.toList k3.data.toList).2)) := by
      show _ = _
      unfold readL
      rw [if_neg (fun h => z1 h.1), if_neg (fun h => z2 h.1), if_pos ⟨z3, hl⟩, e1, e2, e3]
    clear hl e0 e1 e2 e3 hfe
    generalize hA : actF k2.data.toList k3.data.toList = A at *
    obtain ⟨⟨go, ex, send⟩, aok⟩ := A
    generalize hP : wordF k1.data.toList = P at *
    go_wp2_with fail
    refine (l5Word_ok k1 _ (by omega)).mono ?_
    rintro e w2 ⟨rfl, hb2⟩
    rw [hP]
    unfold strV
    obtain ⟨pb, hpb⟩ : ∃ pb : ByteArray, pb = ⟨(optL P).toArray⟩ := ⟨_, rfl⟩
    rw [← hpb]
    have Hpb : Hid _ := hpb
    clear hpb d1
    have hbb2 := below_step hbb hbb.size hb2
    have hwz2 := hb2.size
    have R2 := row_below R1 hb2
    clear R1 c0 f0 c1 f1 c2 f2 c3 f3 c4 f4 c5 f5 c6 f6
    replace d2 := (hb2.cell (by exact hfgl)).trans d2
    replace d3 := (hb2.cell (by exact hfgl)).trans d3
    have hAc := fun W => l5Action_ok k2 k3 W (by omega) (by omega)
    rw [hA] at hAc
    unfold actV strV at hAc
    simp only at hAc
    obtain ⟨sb, hsb⟩ : ∃ sb : ByteArray, sb = ⟨send.toArray⟩ := ⟨_, rfl⟩
    rw [← hsb] at hAc
    have Hsb : Hid _ := hsb
    clear hsb hA hP
    have hfg2 : fg < w2.heap.size := by omega
    go_wp2
    have HSS : Hid (∀ W', Below w2.heap.size w2 W' → W'.cell? ⟨fg, 2, none⟩ = some (.string k2) ∧ W'.cell? ⟨fg, 3, none⟩ = some (.string k3)) := fun W' h => ⟨(h.cell (by exact hfg2)).trans d2, (h.cell (by exact hfg2)).trans d3⟩
    go_region_held3 (fun w' => w'.cell? ⟨fg, 2, none⟩ = some (.string k2) ∧ w'.cell? ⟨fg, 3, none⟩ = some (.string k3)) ((first | exact HSS.out _ hb3' | exact HSS.out _ (hb3'.alloc hb3'.size _) | exact HSS.out _ (below_set3 hb3' (Nat.le_refl _) _ _ _) | go_keep)) ((go_at_call 34; refine (hAc _).mono ?_; rintro e w3 ⟨rfl, hb3⟩; first | ((with_reducible have hy := pick_alloc hb3); obtain ⟨y, hb3'⟩ := hy; have y0 := row_cells y 0; have y1 := row_cells y 1; have y2 := row_cells y 2; have g0 := frozen_of_row _ _ 0 _ _ y; have g1 := frozen_of_row _ _ 1 _ _ y; have g2 := frozen_of_row _ _ 2 _ _ y; simp at y0 y1 y2) | (have hb3' := pick_call hb3)))
    all_goals
      have R3 := row_below R2 hb3'
      have B3 := below_step hbb2 hbb2.size hb3'
      first
        | (have T := ActW.set (go := go) (ex := ex) (sb := sb) B3 R3 (by omega) y rfl; clear y y0 y1 y2 g0 g1 g2; generalize ((w3.setCell ⟨w2.heap.size, 0, none⟩ (.int .i64 go)).setCell ⟨w2.heap.size, 1, none⟩ (.int .i64 ex)).setCell ⟨w2.heap.size, 2, none⟩ (.string sb) = W at T ⊢; generalize w2.heap.size = ga at T ⊢)
        | (have T := ActW.alloc (go := go) (ex := ex) (sb := sb) B3 R3; generalize w3.alloc (.cells #[.int .i64 go, .int .i64 ex, .string sb] 38) = W at T ⊢; generalize w3.heap.size = ga at T ⊢)
      have cs := row_cells T.row
      have ac := row_cells T.act
      have a0 := ac 0; have a1 := ac 1; have a2 := ac 2
      have c0 := cs 0; have c1 := cs 1; have c2 := cs 2; have c3 := cs 3; have c4 := cs 4; have c5 := cs 5; have c6 := cs 6
      have f0 := frozen_of_row _ _ 0 _ _ T.row
      have f1 := frozen_of_row _ _ 1 _ _ T.row
      have f2 := frozen_of_row _ _ 2 _ _ T.row
      have f3 := frozen_of_row _ _ 3 _ _ T.row
      have f4 := frozen_of_row _ _ 4 _ _ T.row
      have f5 := frozen_of_row _ _ 5 _ _ T.row
      have f6 := frozen_of_row _ _ 6 _ _ T.row
      simp at a0 a1 a2 c0 c1 c2 c3 c4 c5 c6
      clear cs ac R3 B3 hb3 hb3'
    all_goals
      cases hps : P.isSome
      all_goals
        rw [hps] at HL
        go_wp2
        first
          | exact bodyPost_ret (v := .tuple #[.agg #[.int .u8 111, .int .i64 0, .int .i64 0, .string pb, .int .i64 go, .int .i64 ex, .string sb], .bool aok]) (by simp [results, Tryd.results16, go_sem, c0, c1, c2, c3, c4, c5, c6]) rfl ⟨by rw [HR.out, HL.out]; rw [Hpb.out, Hsb.out]; rfl, below_set7 T.below (Nat.le_refl _) _ _ _ _ _ _ _⟩
          | exact bodyPost_ret (v := .tuple #[.agg #[.int .u8 111, .int .i64 0, .int .i64 0, .string pb, .int .i64 go, .int .i64 ex, .string sb], .bool false]) (by simp [results, Tryd.results16, go_sem, c0, c1, c2, c3, c4, c5, c6]) rfl ⟨by rw [HR.out, HL.out]; rw [Hpb.out, Hsb.out]; rfl, below_set7 T.below (Nat.le_refl _) _ _ _ _ _ _ _⟩
  have q3 := beq_not e0 z3
  by_cases z4 : fs.getD 0 [] = [116, 105, 109, 101, 111, 117, 116]
  · have q4 := beq_of e0 z4
    have q5 : (k0.toList == [102, 117, 108, 108]) = false := by rw [beq_iff_eq.1 q4]; rfl
    by_cases hl : fs.length = 4
    case neg =>
      have hl' : ¬(fs.length : Int) = 4 := by omega
      have HL : Hid (readL fs = (.zero, false)) := by
        show _ = _
        unfold readL
        rw [if_neg (fun h => z1 h.1), if_neg (fun h => z2 h.1), if_neg (fun h => z3 h.1), if_neg (fun h => hl h.2), if_neg (fun h => by rw [z4] at h; exact absurd h.1 (by decide))]
      clear hl z4 e0 hfe
      go_wp2
      exact bodyPost_ret (v := .tuple #[.agg #[.int .u8 0, .int .i64 0, .int .i64 0, .string ⟨#[]⟩, .int .i64 0, .int .i64 0, .string ⟨#[]⟩], .bool false]) (by simp [results, Tryd.results16, go_sem, c0, c1, c2, c3, c4, c5, c6]) rfl ⟨by rw [HR.out, HL.out]; rfl, below_set7 hbb (Nat.le_refl _) _ _ _ _ _ _ _⟩
    obtain ⟨k1, d1, e1, s1⟩ := hf.field hfe (j := 1) (by omega)
    obtain ⟨k2, d2, e2, s2⟩ := hf.field hfe (j := 2) (by omega)
    obtain ⟨k3, d3, e3, s3⟩ := hf.field hfe (j := 3) (by omega)
    have hj1 : (1 : Int) < (fs.length : Int) := by omega
    have hj2 : (2 : Int) < (fs.length : Int) := by omega
    have hj3 : (3 : Int) < (fs.length : Int) := by omega
    have hl' : (fs.length : Int) = 4 := by omega
    have HL : Hid (readL fs = (⟨116, numF k1.data.toList, 0, [], (actF k2.data.toList k3.data.toList).1⟩, (actF k2.data.toList k3.data.toList).2 && btw (numF k1.data.toList) 1 10000)) := by
      show _ = _
      unfold readL
      rw [if_neg (fun h => z1 h.1), if_neg (fun h => z2 h.1), if_neg (fun h => z3 h.1), if_pos ⟨z4, hl⟩, e1, e2, e3]
    clear hl e0 e1 e2 e3 hfe
    generalize hA : actF k2.data.toList k3.data.toList = A at *
    obtain ⟨⟨go, ex, send⟩, aok⟩ := A
    go_wp2_with fail
    refine (l5Number_ok k1 _ (by omega)).mono ?_
    rintro e w' ⟨rfl, hw'⟩
    subst w'
    generalize numF k1.data.toList = xn at *
    clear c0 f0 c1 f1 c2 f2 c3 f3 c4 f4 c5 f5 c6 f6
    have hAc := fun W => l5Action_ok k2 k3 W (by omega) (by omega)
    rw [hA] at hAc
    unfold actV strV at hAc
    simp only at hAc
    obtain ⟨sb, hsb⟩ : ∃ sb : ByteArray, sb = ⟨send.toArray⟩ := ⟨_, rfl⟩
    rw [← hsb] at hAc
    have Hsb : Hid _ := hsb
    clear hsb hA
    go_wp2
    have HSS : Hid (∀ W', Below w1.heap.size w1 W' → W'.cell? ⟨fg, 2, none⟩ = some (.string k2) ∧ W'.cell? ⟨fg, 3, none⟩ = some (.string k3)) := fun W' h => ⟨(h.cell (by exact hfgl)).trans d2, (h.cell (by exact hfgl)).trans d3⟩
    go_region_held3 (fun w' => w'.cell? ⟨fg, 2, none⟩ = some (.string k2) ∧ w'.cell? ⟨fg, 3, none⟩ = some (.string k3)) ((first | exact HSS.out _ hb3' | exact HSS.out _ (hb3'.alloc hb3'.size _) | exact HSS.out _ (below_set3 hb3' (Nat.le_refl _) _ _ _) | go_keep)) ((go_at_call 34; refine (hAc _).mono ?_; rintro e w3 ⟨rfl, hb3⟩; first | ((with_reducible have hy := pick_alloc hb3); obtain ⟨y, hb3'⟩ := hy; have y0 := row_cells y 0; have y1 := row_cells y 1; have y2 := row_cells y 2; have g0 := frozen_of_row _ _ 0 _ _ y; have g1 := frozen_of_row _ _ 1 _ _ y; have g2 := frozen_of_row _ _ 2 _ _ y; simp at y0 y1 y2) | (have hb3' := pick_call hb3)))
    all_goals
      have R3 := row_below R1 hb3'
      have B3 := below_step hbb hbb.size hb3'
      first
        | (have T := ActW.set (go := go) (ex := ex) (sb := sb) B3 R3 (by omega) y rfl; clear y y0 y1 y2 g0 g1 g2; generalize ((w3.setCell ⟨w1.heap.size, 0, none⟩ (.int .i64 go)).setCell ⟨w1.heap.size, 1, none⟩ (.int .i64 ex)).setCell ⟨w1.heap.size, 2, none⟩ (.string sb) = W at T ⊢; generalize w1.heap.size = ga at T ⊢)
        | (have T := ActW.alloc (go := go) (ex := ex) (sb := sb) B3 R3; generalize w3.alloc (.cells #[.int .i64 go, .int .i64 ex, .string sb] 38) = W at T ⊢; generalize w3.heap.size = ga at T ⊢)
      have cs := row_cells T.row
      have ac := row_cells T.act
      have a0 := ac 0; have a1 := ac 1; have a2 := ac 2
      have c0 := cs 0; have c1 := cs 1; have c2 := cs 2; have c3 := cs 3; have c4 := cs 4; have c5 := cs 5; have c6 := cs 6
      have f0 := frozen_of_row _ _ 0 _ _ T.row
      have f1 := frozen_of_row _ _ 1 _ _ T.row
      have f2 := frozen_of_row _ _ 2 _ _ T.row
      have f3 := frozen_of_row _ _ 3 _ _ T.row
      have f4 := frozen_of_row _ _ 4 _ _ T.row
      have f5 := frozen_of_row _ _ 5 _ _ T.row
      have f6 := frozen_of_row _ _ 6 _ _ T.row
      simp at a0 a1 a2 c0 c1 c2 c3 c4 c5 c6
      clear cs ac R3 B3 hb3 hb3'
    all_goals
      have hga : ga ≠ w.heap.size := by have := T.gt; omega
      have hga' : ¬ga = w.heap.size := hga
      have hga2 : ¬w.heap.size = ga := fun e => hga e.symm
      cases aok
      case false =>
        go_wp2
        go_region
        all_goals
          go_wp2
          exact bodyPost_ret (v := .tuple #[.agg #[.int .u8 116, .int .i64 xn, .int .i64 0, .string ⟨#[]⟩, .int .i64 go, .int .i64 ex, .string sb], .bool false]) (by simp [results, Tryd.results16, go_sem, c0, c1, c2, c3, c4, c5, c6]) rfl ⟨by rw [HR.out, HL.out]; rw [Hsb.out]; rfl, (below_set7 T.below (Nat.le_refl _) _ _ _ _ _ _ _).drew⟩
      case true =>
        go_wp2
        go_region_held3 (fun w' => w'.cell? ⟨ga, 0, none⟩ = some (.int .i64 go) ∧ w'.cell? ⟨ga, 1, none⟩ = some (.int .i64 ex) ∧ w'.cell? ⟨ga, 2, none⟩ = some (.string sb)) (go_keep) ((go_at_call 33; refine (between_ok _ _ _ _).mono ?_; rintro e w' ⟨rfl, hw'⟩; subst w'))
        all_goals
          go_wp2
          exact bodyPost_ret (v := .tuple #[.agg #[.int .u8 116, .int .i64 xn, .int .i64 0, .string ⟨#[]⟩, .int .i64 go, .int .i64 ex, .string sb], .bool (btw xn 1 10000)]) (by simp [results, Tryd.results16, go_sem, c0, c1, c2, c3, c4, c5, c6]) rfl ⟨by rw [HR.out, HL.out]; rw [Hsb.out]; rfl, (below_set7 T.below (Nat.le_refl _) _ _ _ _ _ _ _).drew⟩
  have q4 := beq_not e0 z4
  by_cases z5 : fs.getD 0 [] = [102, 117, 108, 108]
  · have q5 := beq_of e0 z5
    by_cases hl : fs.length = 3
    case neg =>
      have hl' : ¬(fs.length : Int) = 3 := by omega
      have HL : Hid (readL fs = (.zero, false)) := by
        show _ = _
        unfold readL
        rw [if_neg (fun h => z1 h.1), if_neg (fun h => z2 h.1), if_neg (fun h => z3 h.1), if_neg (fun h => z4 h.1), if_neg (fun h => hl h.2)]
      clear hl z5 e0 hfe
      go_wp2
      exact bodyPost_ret (v := .tuple #[.agg #[.int .u8 0, .int .i64 0, .int .i64 0, .string ⟨#[]⟩, .int .i64 0, .int .i64 0, .string ⟨#[]⟩], .bool false]) (by simp [results, Tryd.results16, go_sem, c0, c1, c2, c3, c4, c5, c6]) rfl ⟨by rw [HR.out, HL.out]; rfl, below_set7 hbb (Nat.le_refl _) _ _ _ _ _ _ _⟩
    obtain ⟨k1, d1, e1, s1⟩ := hf.field hfe (j := 1) (by omega)
    obtain ⟨k2, d2, e2, s2⟩ := hf.field hfe (j := 2) (by omega)
    have hj1 : (1 : Int) < (fs.length : Int) := by omega
    have hj2 : (2 : Int) < (fs.length : Int) := by omega
    have hl' : (fs.length : Int) = 3 := by omega
    have HL : Hid (readL fs = (⟨102, 0, 0, [], (actF k1.data.toList k2.data.toList).1⟩, (actF k1.data.toList k2.data.toList).2)) := by
      show _ = _
      unfold readL
      rw [if_neg (fun h => z1 h.1), if_neg (fun h => z2 h.1), if_neg (fun h => z3 h.1), if_neg (fun h => z4 h.1), if_pos ⟨z5, hl⟩, e1, e2]
    clear hl e0 e1 e2 hfe
    generalize hA : actF k1.data.toList k2.data.toList = A at *
    obtain ⟨⟨go, ex, send⟩, aok⟩ := A
    clear c0 f0 c1 f1 c2 f2 c3 f3 c4 f4 c5 f5 c6 f6
    have hAc := fun W => l5Action_ok k1 k2 W (by omega) (by omega)
    rw [hA] at hAc
    unfold actV strV at hAc
    simp only at hAc
    obtain ⟨sb, hsb⟩ : ∃ sb : ByteArray, sb = ⟨send.toArray⟩ := ⟨_, rfl⟩
    rw [← hsb] at hAc
    have Hsb : Hid _ := hsb
    clear hsb hA
    go_wp2
    have HSS : Hid (∀ W', Below w1.heap.size w1 W' → W'.cell? ⟨fg, 1, none⟩ = some (.string k1) ∧ W'.cell? ⟨fg, 2, none⟩ = some (.string k2)) := fun W' h => ⟨(h.cell (by exact hfgl)).trans d1, (h.cell (by exact hfgl)).trans d2⟩
    go_region_held3 (fun w' => w'.cell? ⟨fg, 1, none⟩ = some (.string k1) ∧ w'.cell? ⟨fg, 2, none⟩ = some (.string k2)) ((first | exact HSS.out _ hb3' | exact HSS.out _ (hb3'.alloc hb3'.size _) | exact HSS.out _ (below_set3 hb3' (Nat.le_refl _) _ _ _) | go_keep)) ((go_at_call 34; refine (hAc _).mono ?_; rintro e w3 ⟨rfl, hb3⟩; first | ((with_reducible have hy := pick_alloc hb3); obtain ⟨y, hb3'⟩ := hy; have y0 := row_cells y 0; have y1 := row_cells y 1; have y2 := row_cells y 2; have g0 := frozen_of_row _ _ 0 _ _ y; have g1 := frozen_of_row _ _ 1 _ _ y; have g2 := frozen_of_row _ _ 2 _ _ y; simp at y0 y1 y2) | (have hb3' := pick_call hb3)))
    all_goals
      have R3 := row_below R1 hb3'
      have B3 := below_step hbb hbb.size hb3'
      first
        | (have T := ActW.set (go := go) (ex := ex) (sb := sb) B3 R3 (by omega) y rfl; clear y y0 y1 y2 g0 g1 g2; generalize ((w3.setCell ⟨w1.heap.size, 0, none⟩ (.int .i64 go)).setCell ⟨w1.heap.size, 1, none⟩ (.int .i64 ex)).setCell ⟨w1.heap.size, 2, none⟩ (.string sb) = W at T ⊢; generalize w1.heap.size = ga at T ⊢)
        | (have T := ActW.alloc (go := go) (ex := ex) (sb := sb) B3 R3; generalize w3.alloc (.cells #[.int .i64 go, .int .i64 ex, .string sb] 38) = W at T ⊢; generalize w3.heap.size = ga at T ⊢)
      have cs := row_cells T.row
      have ac := row_cells T.act
      have a0 := ac 0; have a1 := ac 1; have a2 := ac 2
      have c0 := cs 0; have c1 := cs 1; have c2 := cs 2; have c3 := cs 3; have c4 := cs 4; have c5 := cs 5; have c6 := cs 6
      have f0 := frozen_of_row _ _ 0 _ _ T.row
      have f1 := frozen_of_row _ _ 1 _ _ T.row
      have f2 := frozen_of_row _ _ 2 _ _ T.row
      have f3 := frozen_of_row _ _ 3 _ _ T.row
      have f4 := frozen_of_row _ _ 4 _ _ T.row
      have f5 := frozen_of_row _ _ 5 _ _ T.row
      have f6 := frozen_of_row _ _ 6 _ _ T.row
      simp at a0 a1 a2 c0 c1 c2 c3 c4 c5 c6
      clear cs ac R3 B3 hb3 hb3'
    all_goals
      go_wp2
      exact bodyPost_ret (v := .tuple #[.agg #[.int .u8 102, .int .i64 0, .int .i64 0, .string ⟨#[]⟩, .int .i64 go, .int .i64 ex, .string sb], .bool aok]) (by simp [results, Tryd.results16, go_sem, c0, c1, c2, c3, c4, c5, c6]) rfl ⟨by rw [HR.out, HL.out]; rw [Hsb.out]; rfl, below_set7 T.below (Nat.le_refl _) _ _ _ _ _ _ _⟩
  have q5 := beq_not e0 z5
  have HL : Hid (readL fs = (.zero, false)) := by
    show _ = _
    unfold readL
    rw [if_neg (fun h => z1 h.1), if_neg (fun h => z2 h.1), if_neg (fun h => z3 h.1), if_neg (fun h => z4 h.1), if_neg (fun h => z5 h.1)]
  clear z1 z2 z3 z4 z5 e0 hfe
  go_wp2
  exact bodyPost_ret (v := .tuple #[.agg #[.int .u8 0, .int .i64 0, .int .i64 0, .string ⟨#[]⟩, .int .i64 0, .int .i64 0, .string ⟨#[]⟩], .bool false]) (by simp [results, Tryd.results16, go_sem, c0, c1, c2, c3, c4, c5, c6]) rfl ⟨by rw [HR.out, HL.out]; rfl, below_set7 hbb (Nat.le_refl _) _ _ _ _ _ _ _⟩
end Go.Proofs.YtipndbhedaknnaaDoor
