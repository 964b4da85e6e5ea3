import Derived.Test.YtipndbhedaknnaaDoorPrgE
namespace Go.Proofs.YtipndbhedaknnaaDoor
open Go.RowKit
attribute [local go_sem ↓] Go.wp_at_zero Go.wp_at_succ

set_option maxRecDepth 100000 in
set_option maxHeartbeats 2000000 in
theorem eqState_ok (cv cw : Value) (cs : List CaseD) (tmo go ex : Int) (sb : ByteArray) (fl : Bool) (go2 ex2 : Int) (sb2 : ByteArray) (eof : Int) (w : World) (h1 : CsR w cv cs) (h2 : CsR w cw cs) (hn : cs.length ≤ 1048576) :
    Calls Tryd.prog 42 #[.agg #[cv, .int .i64 tmo, .int .i64 go, .int .i64 ex, .string sb, .bool fl, .int .i64 go2, .int .i64 ex2, .string sb2, .int .i64 eof], .agg #[cw, .int .i64 tmo, .int .i64 go, .int .i64 ex, .string sb, .bool fl, .int .i64 go2, .int .i64 ex2, .string sb2, .int .i64 eof]] w fun e w' => e = .returned (.bool true) ∧ Below w.heap.size w w' := by
  have e1 : (tmo != tmo) = false := by simp
  have e2 : (eof != eof) = false := by simp
  have e3 : (fl != fl) = false := by simp
  have r1 : ((w.alloc (.cells #[cv, .int .i64 tmo, .int .i64 go, .int .i64 ex, .string sb, .bool fl, .int .i64 go2, .int .i64 ex2, .string sb2, .int .i64 eof] 45)).alloc (.cells #[cw, .int .i64 tmo, .int .i64 go, .int .i64 ex, .string sb, .bool fl, .int .i64 go2, .int .i64 ex2, .string sb2, .int .i64 eof] 45)).heap[w.heap.size]? = some (.cells #[cv, .int .i64 tmo, .int .i64 go, .int .i64 ex, .string sb, .bool fl, .int .i64 go2, .int .i64 ex2, .string sb2, .int .i64 eof] 45 (0, 0)) := heap_alloc2_old _ _ _
  have r2 : ((w.alloc (.cells #[cv, .int .i64 tmo, .int .i64 go, .int .i64 ex, .string sb, .bool fl, .int .i64 go2, .int .i64 ex2, .string sb2, .int .i64 eof] 45)).alloc (.cells #[cw, .int .i64 tmo, .int .i64 go, .int .i64 ex, .string sb, .bool fl, .int .i64 go2, .int .i64 ex2, .string sb2, .int .i64 eof] 45)).heap[w.heap.size + 1]? = some (.cells #[cw, .int .i64 tmo, .int .i64 go, .int .i64 ex, .string sb, .bool fl, .int .i64 go2, .int .i64 ex2, .string sb2, .int .i64 eof] 45 (0, 0)) := heap_alloc2_new _ _ _
  have b0 : Below w.heap.size w ((w.alloc (.cells #[cv, .int .i64 tmo, .int .i64 go, .int .i64 ex, .string sb, .bool fl, .int .i64 go2, .int .i64 ex2, .string sb2, .int .i64 eof] 45)).alloc (.cells #[cw, .int .i64 tmo, .int .i64 go, .int .i64 ex, .string sb, .bool fl, .int .i64 go2, .int .i64 ex2, .string sb2, .int .i64 eof] 45)) := ((Below.refl _ _).alloc (Nat.le_refl _) _).alloc (by simp) _
  have k1 := h1.below b0
  have k2 := h2.below b0
  go_enter Tryd.func42, Tryd.ntmps42
  go_wp2_with fail
  generalize hW : (w.alloc (.cells #[cv, .int .i64 tmo, .int .i64 go, .int .i64 ex, .string sb, .bool fl, .int .i64 go2, .int .i64 ex2, .string sb2, .int .i64 eof] 45)).alloc (.cells #[cw, .int .i64 tmo, .int .i64 go, .int .i64 ex, .string sb, .bool fl, .int .i64 go2, .int .i64 ex2, .string sb2, .int .i64 eof] 45) = W at *
  refine (eqCaseS_ok _ _ cs W k1 k2 hn).mono ?_
  rintro e w1 ⟨rfl, hb1⟩
  have b1 := below_step b0 b0.size hb1
  have r1 := row_below r1 hb1
  have r2 := row_below r2 hb1
  clear hW hb1 b0 k1 k2 h1 h2
  have p1 : w1.cell? ⟨w.heap.size, 1, none⟩ = some (.int .i64 tmo) := cell_of_row _ _ 1 _ _ _ r1
  have q1 : w1.cell? ⟨w.heap.size + 1, 1, none⟩ = some (.int .i64 tmo) := cell_of_row _ _ 1 _ _ _ r2
  have p2 : w1.cell? ⟨w.heap.size, 2, none⟩ = some (.int .i64 go) := cell_of_row _ _ 2 _ _ _ r1
  have q2 : w1.cell? ⟨w.heap.size + 1, 2, none⟩ = some (.int .i64 go) := cell_of_row _ _ 2 _ _ _ r2
  have p3 : w1.cell? ⟨w.heap.size, 3, none⟩ = some (.int .i64 ex) := cell_of_row _ _ 3 _ _ _ r1
  have q3 : w1.cell? ⟨w.heap.size + 1, 3, none⟩ = some (.int .i64 ex) := cell_of_row _ _ 3 _ _ _ r2
  have p4 : w1.cell? ⟨w.heap.size, 4, none⟩ = some (.string sb) := cell_of_row _ _ 4 _ _ _ r1
  have q4 : w1.cell? ⟨w.heap.size + 1, 4, none⟩ = some (.string sb) := cell_of_row _ _ 4 _ _ _ r2
  go_wp2_with fail
  refine (eqAction_ok go ex sb _).mono ?_
  rintro e w2 ⟨rfl, hb2⟩
  have b2 := below_step b1 b1.size hb2
  have r1 := row_below r1 hb2
  have r2 := row_below r2 hb2
  clear p1 q1 p2 q2 p3 q3 p4 q4 hb2 b1
  have p5 : w2.cell? ⟨w.heap.size, 5, none⟩ = some (.bool fl) := cell_of_row _ _ 5 _ _ _ r1
  have q5 : w2.cell? ⟨w.heap.size + 1, 5, none⟩ = some (.bool fl) := cell_of_row _ _ 5 _ _ _ r2
  have p6 : w2.cell? ⟨w.heap.size, 6, none⟩ = some (.int .i64 go2) := cell_of_row _ _ 6 _ _ _ r1
  have q6 : w2.cell? ⟨w.heap.size + 1, 6, none⟩ = some (.int .i64 go2) := cell_of_row _ _ 6 _ _ _ r2
  have p7 : w2.cell? ⟨w.heap.size, 7, none⟩ = some (.int .i64 ex2) := cell_of_row _ _ 7 _ _ _ r1
  have q7 : w2.cell? ⟨w.heap.size + 1, 7, none⟩ = some (.int .i64 ex2) := cell_of_row _ _ 7 _ _ _ r2
  have p8 : w2.cell? ⟨w.heap.size, 8, none⟩ = some (.string sb2) := cell_of_row _ _ 8 _ _ _ r1
  have q8 : w2.cell? ⟨w.heap.size + 1, 8, none⟩ = some (.string sb2) := cell_of_row _ _ 8 _ _ _ r2
  go_wp2_with fail
  refine (eqAction_ok go2 ex2 sb2 _).mono ?_
  rintro e w3 ⟨rfl, hb3⟩
  have b3 := below_step b2 b2.size hb3
  have r1 := row_below r1 hb3
  have r2 := row_below r2 hb3
  clear p5 q5 p6 q6 p7 q7 p8 q8 hb3 b2
  have p9 : w3.cell? ⟨w.heap.size, 9, none⟩ = some (.int .i64 eof) := cell_of_row _ _ 9 _ _ _ r1
  have q9 : w3.cell? ⟨w.heap.size + 1, 9, none⟩ = some (.int .i64 eof) := cell_of_row _ _ 9 _ _ _ r2
  go_wp2
  go_ret
  exact ⟨rfl, b3⟩
set_option maxRecDepth 100000 in
set_option maxHeartbeats 8000000 in
theorem eqStateS_ok (v v2 : Value) (cv cw : Nat → Value) (ss : List StD) (w : World) (hs : StR w v cv ss) (hs2 : StR w v2 cw ss) (hn : ss.length ≤ 1048576) (hm : ∀ s ∈ ss, s.cases.length ≤ 1048576) :
    Calls Tryd.prog 23 #[v, v2] w fun e w' => e = .returned (.bool true) ∧ Below w.heap.size w w' := by
  obtain ⟨ao, cap, rfl, hc⟩ := hs
  obtain ⟨ao2, cap2, rfl, hc2⟩ := hs2
  go_enter Tryd.func23, Tryd.ntmps23
  go_wp2
  go_loopw [5] (fun i wr => ∃ k : Nat, k ≤ ss.length ∧ i = .int .i64 k ∧ Below w.heap.size w wr)
    (fun i _ => ss.length - (intOf i).toNat)
  case atStart => exact ⟨0, Nat.zero_le _, rfl, Below.refl _ _⟩
  case round =>
    obtain ⟨k, hk, rfl, hb⟩ := hrel
    by_cases hlt : k < ss.length
    · obtain ⟨⟨b, rfl, hbl, hcc⟩, R1⟩ := hc k hlt
      obtain ⟨⟨b2, rfl, hbl2, hcc2⟩, R2⟩ := hc2 k hlt
      have hmk := hm ss[k] (List.getElem_mem hlt)
      clear hc hc2 hm
      generalize ss[k] = sd at *
      generalize cv k = u1 at *
      generalize cw k = u2 at *
      obtain ⟨cs, tmo, ⟨go, ex, send⟩, fl, ⟨go2, ex2, send2⟩, eof⟩ := sd
      dsimp only at R1 R2 hmk
      have hbr : b < wr.heap.size := Nat.lt_of_lt_of_le hbl hb.size
      have hbr2 : b2 < wr.heap.size := Nat.lt_of_lt_of_le hbl2 hb.size
      replace R1 := R1.below hb
      replace R2 := R2.below hb
      have c0 := (hb.cell (p := ⟨b, k * 10 + 0, none⟩) (by exact hbl)).trans (hcc 0 (by omega))
      have d0 := (hb.cell (p := ⟨b2, k * 10 + 0, none⟩) (by exact hbl2)).trans (hcc2 0 (by omega))
      have c1 := (hb.cell (p := ⟨b, k * 10 + 1, none⟩) (by exact hbl)).trans (hcc 1 (by omega))
      have d1 := (hb.cell (p := ⟨b2, k * 10 + 1, none⟩) (by exact hbl2)).trans (hcc2 1 (by omega))
      have c2 := (hb.cell (p := ⟨b, k * 10 + 2, none⟩) (by exact hbl)).trans (hcc 2 (by omega))
      have d2 := (hb.cell (p := ⟨b2, k * 10 + 2, none⟩) (by exact hbl2)).trans (hcc2 2 (by omega))
      have c3 := (hb.cell (p := ⟨b, k * 10 + 3, none⟩) (by exact hbl)).trans (hcc 3 (by omega))
      have d3 := (hb.cell (p := ⟨b2, k * 10 + 3, none⟩) (by exact hbl2)).trans (hcc2 3 (by omega))
      have c4 := (hb.cell (p := ⟨b, k * 10 + 4, none⟩) (by exact hbl)).trans (hcc 4 (by omega))
      have d4 := (hb.cell (p := ⟨b2, k * 10 + 4, none⟩) (by exact hbl2)).trans (hcc2 4 (by omega))
      have c5 := (hb.cell (p := ⟨b, k * 10 + 5, none⟩) (by exact hbl)).trans (hcc 5 (by omega))
      have d5 := (hb.cell (p := ⟨b2, k * 10 + 5, none⟩) (by exact hbl2)).trans (hcc2 5 (by omega))
      have c6 := (hb.cell (p := ⟨b, k * 10 + 6, none⟩) (by exact hbl)).trans (hcc 6 (by omega))
      have d6 := (hb.cell (p := ⟨b2, k * 10 + 6, none⟩) (by exact hbl2)).trans (hcc2 6 (by omega))
      have c7 := (hb.cell (p := ⟨b, k * 10 + 7, none⟩) (by exact hbl)).trans (hcc 7 (by omega))
      have d7 := (hb.cell (p := ⟨b2, k * 10 + 7, none⟩) (by exact hbl2)).trans (hcc2 7 (by omega))
      have c8 := (hb.cell (p := ⟨b, k * 10 + 8, none⟩) (by exact hbl)).trans (hcc 8 (by omega))
      have d8 := (hb.cell (p := ⟨b2, k * 10 + 8, none⟩) (by exact hbl2)).trans (hcc2 8 (by omega))
      have c9 := (hb.cell (p := ⟨b, k * 10 + 9, none⟩) (by exact hbl)).trans (hcc 9 (by omega))
      have d9 := (hb.cell (p := ⟨b2, k * 10 + 9, none⟩) (by exact hbl2)).trans (hcc2 9 (by omega))
      simp only [stCells, strV, List.getElem?_cons_succ, List.getElem?_cons_zero, Nat.add_zero] at c0 d0 c1 d1 c2 d2 c3 d3 c4 d4 c5 d5 c6 d6 c7 d7 c8 d8 c9 d9
      obtain ⟨sb, hsb⟩ : ∃ sb : ByteArray, sb = ⟨send.toArray⟩ := ⟨_, rfl⟩
      obtain ⟨sb2, hsb2⟩ : ∃ sb2 : ByteArray, sb2 = ⟨send2.toArray⟩ := ⟨_, rfl⟩
      rw [← hsb] at c4 d4
      rw [← hsb2] at c8 d8
      clear hsb hsb2 hcc hcc2
      have hi0 : (0 : Int) ≤ (k : Int) := by omega
      have hi1 : (k : Int) < (ss.length : Int) := by omega
      have hcl := fun (W : World) (hW : Below wr.heap.size wr W) => eqState_ok u1 u2 cs tmo go ex sb fl go2 ex2 sb2 eof W (R1.below hW) (R2.below hW) hmk
      have hdr : Below wr.heap.size wr wr.drew := (Below.refl _ _).drew
      go_wp2
      go_region_held3 (fun w' => w'.cell? ⟨b, k * 10, none⟩ = some (u1) ∧ w'.cell? ⟨b, k * 10 + 1, none⟩ = some (.int .i64 tmo) ∧ w'.cell? ⟨b, k * 10 + 2, none⟩ = some (.int .i64 go) ∧ w'.cell? ⟨b, k * 10 + 3, none⟩ = some (.int .i64 ex) ∧ w'.cell? ⟨b, k * 10 + 4, none⟩ = some (.string sb) ∧ w'.cell? ⟨b, k * 10 + 5, none⟩ = some (.bool fl) ∧ w'.cell? ⟨b, k * 10 + 6, none⟩ = some (.int .i64 go2) ∧ w'.cell? ⟨b, k * 10 + 7, none⟩ = some (.int .i64 ex2) ∧ w'.cell? ⟨b, k * 10 + 8, none⟩ = some (.string sb2) ∧ w'.cell? ⟨b, k * 10 + 9, none⟩ = some (.int .i64 eof) ∧ w'.cell? ⟨b2, k * 10, none⟩ = some (u2) ∧ w'.cell? ⟨b2, k * 10 + 1, none⟩ = some (.int .i64 tmo) ∧ w'.cell? ⟨b2, k * 10 + 2, none⟩ = some (.int .i64 go) ∧ w'.cell? ⟨b2, k * 10 + 3, none⟩ = some (.int .i64 ex) ∧ w'.cell? ⟨b2, k * 10 + 4, none⟩ = some (.string sb) ∧ w'.cell? ⟨b2, k * 10 + 5, none⟩ = some (.bool fl) ∧ w'.cell? ⟨b2, k * 10 + 6, none⟩ = some (.int .i64 go2) ∧ w'.cell? ⟨b2, k * 10 + 7, none⟩ = some (.int .i64 ex2) ∧ w'.cell? ⟨b2, k * 10 + 8, none⟩ = some (.string sb2) ∧ w'.cell? ⟨b2, k * 10 + 9, none⟩ = some (.int .i64 eof)) ((first | go_keep | exact ⟨(hb2.cell (by exact hbr)).trans c0, (hb2.cell (by exact hbr)).trans c1, (hb2.cell (by exact hbr)).trans c2, (hb2.cell (by exact hbr)).trans c3, (hb2.cell (by exact hbr)).trans c4, (hb2.cell (by exact hbr)).trans c5, (hb2.cell (by exact hbr)).trans c6, (hb2.cell (by exact hbr)).trans c7, (hb2.cell (by exact hbr)).trans c8, (hb2.cell (by exact hbr)).trans c9, (hb2.cell (by exact hbr2)).trans d0, (hb2.cell (by exact hbr2)).trans d1, (hb2.cell (by exact hbr2)).trans d2, (hb2.cell (by exact hbr2)).trans d3, (hb2.cell (by exact hbr2)).trans d4, (hb2.cell (by exact hbr2)).trans d5, (hb2.cell (by exact hbr2)).trans d6, (hb2.cell (by exact hbr2)).trans d7, (hb2.cell (by exact hbr2)).trans d8, (hb2.cell (by exact hbr2)).trans d9⟩)) ((go_at_call 42; refine (hcl _ (by first | exact hdr | exact Below.refl _ _)).mono ?_; rintro e w2 ⟨rfl, hb2⟩))
      go_wp2
      go_roundw
      case rel => exact ⟨k + 1, by omega, by go_num, below_step hb.drew hb.size hb2⟩
      case measure => simp [intOf]; omega
    · go_wp2
      go_ret
      exact ⟨rfl, hb⟩
set_option maxHeartbeats 800000 in
theorem eqProgram_ok (a b : Int) (v v2 : Value) (cv cw : Nat → Value) (ss : List StD) (w : World) (hs : StR w v cv ss) (hs2 : StR w v2 cw ss) (hn : ss.length ≤ 1048576) (hm : ∀ s ∈ ss, s.cases.length ≤ 1048576) :
    Calls Tryd.prog 7 #[.agg #[.int .i64 a, .int .i64 b, v], .agg #[.int .i64 a, .int .i64 b, v2]] w fun e w' => e = .returned (.bool true) ∧ Below w.heap.size w w' := by
  have e1 : (a != a) = false := by simp
  have e2 : (b != b) = false := by simp
  have b0 : Below w.heap.size w ((w.alloc (.cells #[.int .i64 a, .int .i64 b, v] 24)).alloc (.cells #[.int .i64 a, .int .i64 b, v2] 24)) := ((Below.refl _ _).alloc (Nat.le_refl _) _).alloc (by simp) _
  have hcl := eqStateS_ok v v2 cv cw ss _ (hs.below b0) (hs2.below b0) hn hm
  go_enter Tryd.func7, Tryd.ntmps7
  go_wp2_with (go_at_call 23; refine hcl.mono ?_; rintro e w2 ⟨rfl, hb2⟩)
  go_ret
  exact ⟨rfl, below_step b0 b0.size hb2⟩
end Go.Proofs.YtipndbhedaknnaaDoor
