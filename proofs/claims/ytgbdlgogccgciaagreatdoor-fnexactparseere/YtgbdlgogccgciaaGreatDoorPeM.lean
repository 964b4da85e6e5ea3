import Derived.Test.YtgbdlgogccgciaaGreatDoorPeHn
import Derived.Test.YtgbdlgogccgciaaGreatDoorPeH
import Derived.Test.YtgbdlgogccgciaaGreatDoorOwnZPeK
import Derived.Deep.Cut
import Derived.Deep.CutRange
namespace Go.Proofs.YtgbdlgogccgciaaGreatDoor
open Go.RowKit
attribute [local go_sem ↓] Go.wp_at_zero Go.wp_at_succ

/- READING ALL TOKENS, THE SPECIFICATION's SIDE. -/
theorem l1Bracket_ok (t : ByteArray) (a : Nat) (w : World) (ha : a < t.size) (hsz : t.size ≤ 2000) :
    Calls Tryz.prog 23 #[.string t, .int .i64 (a : Int)] w (BrkA w a (bracketF (t.data.toList.drop (a + 1)))) := by
  by_cases h : atL t.data.toList (a + 1) = 94
  · exact l1Bracket_not t a w ha hsz h
  · exact l1Bracket_no t a w ha hsz h
theorem infoTokP : (Tryz.prog.info? 36).map (fun i => (i.zero, i.size, i.bytes)) = some (some (.agg #[.int .u8 0, .int .i64 0, .slice none 0 0, .int .i64 0, .int .i64 0]), 5, 56) := by kernel_rfl
theorem box_set {W : World} {P : Nat} {C : Array Value} {t : TypeId} (h : W.heap[P]? = some (.cells C t (0, 0))) (i : Nat) (v : Value) : (W.setCell ⟨P, i, none⟩ v).heap[P]? = some (.cells (C.setIfInBounds i v) t (0, 0)) := heap_setCell_same _ _ _ _ _ _ h
theorem LexC.mk2 {B : Nat} {w wr wx : World} {s : List UInt8} {i : Nat} {l : List Tok} {q : Nat → Nat} {sv v6 v10 : Value} {x : Tok} {j q0 : Nat} {C : Array Value} (hb : Below B w wr) (hB : B ≤ wr.heap.size) (hS : TkS B wr sv l q) (hbW : Below wr.heap.size wr wx) (ht : tokF s i = .inr (x, j))
    (hbox : wx.heap[wr.heap.size]? = some (.cells C 36 (0, 0)))
    (hC : C = #[.int .u8 (kB x.kind), .int .i64 (i : Int), setV x q0, .int .i64 (if x.kind = 1 then ((numN l l.length + 1 : Nat) : Int) else x.mn), .int .i64 x.mx])
    (hset : x.kind = 0 → wr.heap.size ≤ q0 ∧ BRow wx q0 x.set) (h6 : v6 = .int .i64 ((numN l l.length + (if x.kind = 1 then 1 else 0) : Nat) : Int)) (h10 : v10 = .int .i64 (j : Int)) :
    LexC B w s i l q sv wr.heap.size v6 v10 wx x j q0 := by
  refine ⟨ht, h10, by rw [numN_end]; exact h6, below_step hb hB hbW, hS.below hbW, ?_, ?_⟩
  · rw [hbox, hC, tkC_end, (tokF_next ht).2.2]
  · intro hk
    obtain ⟨h1, h2⟩ := hset hk
    refine ⟨Nat.le_trans hB h1, fun e => ?_, h2⟩
    have := (ownsRow_blk hS.row e).2
    omega
theorem tokF_94 {s : List UInt8} {i : Nat} (h : atL s i = 94) : tokF s i = .inr (⟨5, i, noB, 0, 0⟩, i + 1) := by unfold tokF; rw [h]; rfl
theorem tokF_36 {s : List UInt8} {i : Nat} (h : atL s i = 36) : tokF s i = .inr (⟨6, i, noB, 0, 0⟩, i + 1) := by unfold tokF; rw [h]; rfl
theorem tokF_40 {s : List UInt8} {i : Nat} (h : atL s i = 40) : tokF s i = .inr (⟨1, i, noB, 0, 0⟩, i + 1) := by unfold tokF; rw [h]; rfl
theorem tokF_41 {s : List UInt8} {i : Nat} (h : atL s i = 41) : tokF s i = .inr (⟨2, i, noB, 0, 0⟩, i + 1) := by unfold tokF; rw [h]; rfl
theorem tokF_124 {s : List UInt8} {i : Nat} (h : atL s i = 124) : tokF s i = .inr (⟨3, i, noB, 0, 0⟩, i + 1) := by unfold tokF; rw [h]; rfl
theorem tokF_42 {s : List UInt8} {i : Nat} (h : atL s i = 42) : tokF s i = .inr (⟨4, i, noB, 0, -1⟩, i + 1) := by unfold tokF; rw [h]; rfl
theorem tokF_43 {s : List UInt8} {i : Nat} (h : atL s i = 43) : tokF s i = .inr (⟨4, i, noB, 1, -1⟩, i + 1) := by unfold tokF; rw [h]; rfl
theorem tokF_63 {s : List UInt8} {i : Nat} (h : atL s i = 63) : tokF s i = .inr (⟨4, i, noB, 0, 1⟩, i + 1) := by unfold tokF; rw [h]; rfl
theorem tokF_46 {s : List UInt8} {i : Nat} (h : atL s i = 46) : tokF s i = .inr (⟨0, i, notB noB, 0, 0⟩, i + 1) := by unfold tokF; rw [h]; rfl
theorem tokF_92 {s : List UInt8} {i : Nat} (h : atL s i = 92) : tokF s i = if specialB (atL s (i + 1)) = true then .inr (⟨0, i, rangeB (atL s (i + 1)) (atL s (i + 1)), 0, 0⟩, i + 2) else .inl 2 := by unfold tokF; rw [h]; rfl
theorem tokF_123 {s : List UInt8} {i : Nat} (h : atL s i = 123) : tokF s i = match intervalF (s.drop (i + 1)) with
    | none => .inl 4
    | some (m, n, k) => .inr (⟨4, i, noB, m, n⟩, i + 1 + k) := by unfold tokF; rw [h]; rfl
theorem tokF_91 {s : List UInt8} {i : Nat} (h : atL s i = 91) : tokF s i = match bracketF (s.drop (i + 1)) with
    | none => .inl 3
    | some (f, k) => .inr (⟨0, i, f, 0, 0⟩, i + 1 + k) := by unfold tokF; rw [h]; rfl
theorem tokF_any {s : List UInt8} {i : Nat} (h1 : atL s i ≠ 94) (h2 : atL s i ≠ 36) (h3 : atL s i ≠ 40) (h4 : atL s i ≠ 41) (h5 : atL s i ≠ 124) (h6 : atL s i ≠ 42) (h7 : atL s i ≠ 43) (h8 : atL s i ≠ 63) (h9 : atL s i ≠ 123) (h10 : atL s i ≠ 91) (h11 : atL s i ≠ 46) (h12 : atL s i ≠ 92) :
    tokF s i = .inr (⟨0, i, rangeB (atL s i) (atL s i), 0, 0⟩, i + 1) := by
  unfold tokF
  rw [if_neg h1, if_neg h2, if_neg h3, if_neg h4, if_neg h5, if_neg h6, if_neg h7, if_neg h8, if_neg h9, if_neg h10, if_neg h11, if_neg h12]

set_option maxRecDepth 100000 in
set_option maxHeartbeats 8000000 in
theorem l1Lex_ok (t : ByteArray) (w : World) (hsz : t.size ≤ 2000) :
    Calls Tryz.prog 9 #[.string t] w (LexA w (lexF t.data.toList 0 [])) := by
  obtain ⟨iT, hjT, hyT0, hyT1, hyT2⟩ := info_parts infoTokP
  go_enter Tryz.func9, Tryz.ntmps9
  go_wp2
  go_loopw [5, 6, 7] (fun sv gv iv wr => ∃ (l : List Tok) (i : Nat) (q : Nat → Nat), gv = .int .i64 ((numN l l.length : Nat) : Int) ∧ iv = .int .i64 (i : Int) ∧ l.length ≤ i ∧ Below w.heap.size w wr ∧ TkS w.heap.size wr sv l q ∧ Hid (lexF t.data.toList 0 [] = lexF t.data.toList i l))
    (fun _ _ iv _ => t.size - (intOf iv).toNat)
  case atStart => exact ⟨[], 0, _, rfl, rfl, Nat.le_refl _, (Below.refl _ _).alloc (Nat.le_refl _) _, TkS.start w _ _ (Nat.le_refl _) rfl, rfl⟩
  case round =>
    obtain ⟨l, i, q, rfl, rfl, hli, hb, hS, HL⟩ := hrel
    have HS : Hid _ := hS
    clear hS
    by_cases hlt : i < t.size
    case neg =>
      have h1 : ¬(i : Int) < (t.size : Int) := by omega
      go_wp2
      refine bodyPost_ret (v := .tuple #[u5, .int .i64 0, .int .i64 0]) (by simp [results, Tryz.results9, go_sem]) rfl ?_
      refine ⟨hb, u5, q, ?_, ?_⟩
      · rw [HL.out, lexF_end (by rw [Array.length_toList]; exact hlt)]; rfl
      · rw [HL.out, lexF_end (by rw [Array.length_toList]; exact hlt)]; exact HS.out
    have h1 : (i : Int) < (t.size : Int) := by omega
    have hc : t[i].toNat < 256 := t[i].toNat_lt
    have hS0 := hb.size
    have Hat : Hid (atL t.data.toList i = (t[i].toNat : Int)) := atL_byte hlt
    have hltl : i < t.data.toList.length := by rw [Array.length_toList]; exact hlt
    have hnu : numN l l.length ≤ 2000 := by have := tnum_le l l.length; omega
    go_upto_region 8 with fail
    obtain ⟨W1, hW1⟩ : ∃ W1, W1 = wr.alloc (Obj.cells #[Value.int IntKind.u8 97, Value.int IntKind.i64 (i : Int), Value.slice none 0 0, Value.int IntKind.i64 0, Value.int IntKind.i64 0] 36) := ⟨_, rfl⟩
    have hP : W1.heap[wr.heap.size]? = some (.cells #[Value.int IntKind.u8 97, Value.int IntKind.i64 (i : Int), Value.slice none 0 0, Value.int IntKind.i64 0, Value.int IntKind.i64 0] 36 (0, 0)) := by rw [hW1]; exact heap_alloc_new _ _
    have hbW : Below wr.heap.size wr W1 := by rw [hW1]; exact (Below.refl _ _).alloc (Nat.le_refl _) _
    rw [← hW1]
    clear hW1
    generalize hC : (t[i].toNat : Int) = C at Hat
    have hC0 : 0 ≤ C ∧ C ≤ 255 := by omega
    go_cut [29] from 18 to 28 (fun v wx => v = .int .u8 C ∧ wx = W1)
    case first =>
      go_wp2
      go_meet
      case rel => exact ⟨rfl, rfl⟩
    obtain ⟨rfl, rfl⟩ := hcut
    rename_i hK0
    refine hK0 _ _ ?_
    go_cut [6, 10] from 29 to 118 (fun v6 v10 wx => ∃ x j q0, LexC w.heap.size w t.data.toList i l q u5 wr.heap.size v6 v10 wx x j q0)
    case first =>
      have HP : Hid _ := hP
      obtain ⟨c0, c1, c2, c3, c4⟩ := row_five hP
      have fz : ∀ o, wc.frozen? ⟨wr.heap.size, o, none⟩ = false := fun o => frozen_of_row _ _ _ _ _ hP
      have fz0 := fz 0
      have fz2 := fz 2
      have fz3 := fz 3
      have fz4 := fz 4
      clear fz hP
      by_cases e94 : C = 94
      case pos =>
        subst e94
        go_wp2
        go_meet
        case rel => exact ⟨_, _, 0, LexC.mk2 hb hS0 HS.out ((hbW).setCell (by simp) _) (tokF_94 Hat.out) (box_set (HP.out) 0 _) rfl (fun h => absurd h (by simp)) (by simp) (by simp)⟩
      by_cases e36 : C = 36
      case pos =>
        subst e36
        go_wp2
        go_meet
        case rel => exact ⟨_, _, 0, LexC.mk2 hb hS0 HS.out ((hbW).setCell (by simp) _) (tokF_36 Hat.out) (box_set (HP.out) 0 _) rfl (fun h => absurd h (by simp)) (by simp) (by simp)⟩
      by_cases e41 : C = 41
      case pos =>
        subst e41
        go_wp2
        go_meet
        case rel => exact ⟨_, _, 0, LexC.mk2 hb hS0 HS.out ((hbW).setCell (by simp) _) (tokF_41 Hat.out) (box_set (HP.out) 0 _) rfl (fun h => absurd h (by simp)) (by simp) (by simp)⟩
      by_cases e124 : C = 124
      case pos =>
        subst e124
        go_wp2
        go_meet
        case rel => exact ⟨_, _, 0, LexC.mk2 hb hS0 HS.out ((hbW).setCell (by simp) _) (tokF_124 Hat.out) (box_set (HP.out) 0 _) rfl (fun h => absurd h (by simp)) (by simp) (by simp)⟩
      by_cases e40 : C = 40
      case pos =>
        subst e40
        go_wp2
        go_meet
        case rel => exact ⟨_, _, 0, LexC.mk2 hb hS0 HS.out (((hbW).setCell (by simp) _).setCell (by simp) _) (tokF_40 Hat.out) (box_set (box_set (HP.out) 0 _) 3 _) rfl (fun h => absurd h (by simp)) (by simp) (by simp)⟩
      by_cases e42 : C = 42
      case pos =>
        subst e42
        go_wp2
        go_meet
        case rel => exact ⟨_, _, 0, LexC.mk2 hb hS0 HS.out (((hbW).setCell (by simp) _).setCell (by simp) _) (tokF_42 Hat.out) (box_set (box_set (HP.out) 0 _) 4 _) rfl (fun h => absurd h (by simp)) (by simp) (by simp)⟩
      by_cases e43 : C = 43
      case pos =>
        subst e43
        go_wp2
        go_meet
        case rel => exact ⟨_, _, 0, LexC.mk2 hb hS0 HS.out ((((hbW).setCell (by simp) _).setCell (by simp) _).setCell (by simp) _) (tokF_43 Hat.out) (box_set (box_set (box_set (HP.out) 0 _) 3 _) 4 _) rfl (fun h => absurd h (by simp)) (by simp) (by simp)⟩
      by_cases e63 : C = 63
      case pos =>
        subst e63
        go_wp2
        go_meet
        case rel => exact ⟨_, _, 0, LexC.mk2 hb hS0 HS.out (((hbW).setCell (by simp) _).setCell (by simp) _) (tokF_63 Hat.out) (box_set (box_set (HP.out) 0 _) 4 _) rfl (fun h => absurd h (by simp)) (by simp) (by simp)⟩
      by_cases e123 : C = 123
      case pos =>
        subst e123
        have ht := tokF_123 Hat.out
        have hCI := l1Interval_ok t i wc hlt hC (by omega)
        cases hI : intervalF (t.data.toList.drop (i + 1)) with
        | none =>
          rw [hI] at ht hCI
          go_wp2_with fail
          refine hCI.mono ?_
          intro e w2 hA
          obtain ⟨he, rfl⟩ := hA
          have he : e = .returned (.tuple #[.int .i64 0, .int .i64 0, .int .i64 (-1)]) := he
          subst he
          go_wp2
          refine bodyPost_ret (v := .tuple #[u5, .int .i64 4, .int .i64 i]) (by simp [results, Tryz.results9, go_sem]) rfl ?_
          refine ⟨below_step hb hS0 hbW, u5, q, ?_, ?_⟩
          · rw [HL.out, lexF_bad hltl ht]
          · rw [HL.out, lexF_bad hltl ht]; exact HS.out.below hbW
        | some r =>
          obtain ⟨m, n, k⟩ := r
          rw [hI] at ht hCI
          have ht : tokF t.data.toList i = .inr (⟨4, i, noB, m, n⟩, i + 1 + k) := ht
          obtain ⟨J, hJ⟩ : ∃ J, J = i + 1 + k := ⟨_, rfl⟩
          rw [← hJ] at ht
          have hk0 : ¬((J : Int) < 0) := by omega
          go_wp2_with fail
          refine hCI.mono ?_
          intro e w2 hA
          obtain ⟨he, rfl⟩ := hA
          have he : e = .returned (.tuple #[.int .i64 m, .int .i64 n, .int .i64 (J : Int)]) := by rw [hJ]; exact he
          subst he
          clear hJ
          go_wp2
          go_meet
          case rel => exact ⟨_, _, 0, LexC.mk2 hb hS0 HS.out (((hbW.setCell (by simp) _).setCell (by simp) _).setCell (by simp) _) ht (box_set (box_set (box_set HP.out 0 _) 3 _) 4 _) rfl (fun h => absurd h (by simp)) (by simp) (by simp)⟩
      by_cases e91 : C = 91
      case pos =>
        subst e91
        go_wp2_with fail
        refine (l1Bracket_ok t i _ hlt (by omega)).mono ?_
        intro e w2 hA
        have ht := tokF_91 Hat.out
        obtain ⟨b2, hl2, hA⟩ := hA
        have hbW2 := below_step hbW hbW.size b2
        cases hI : bracketF (t.data.toList.drop (i + 1)) with
        | none =>
          rw [hI] at ht hA
          obtain rfl := hA
          go_wp2
          refine bodyPost_ret (v := .tuple #[u5, .int .i64 3, .int .i64 i]) (by simp [results, Tryz.results9, go_sem]) rfl ?_
          refine ⟨below_step hb hS0 hbW2, u5, q, ?_, ?_⟩
          · rw [HL.out, lexF_bad hltl ht]
          · rw [HL.out, lexF_bad hltl ht]; exact HS.out.below hbW2
        | some r =>
          obtain ⟨f, k⟩ := r
          rw [hI] at ht hA
          obtain ⟨rfl, hR⟩ := hA
          have ht : tokF t.data.toList i = .inr (⟨0, i, f, 0, 0⟩, i + 1 + k) := ht
          have hk0 : ¬(((i + 1 + k : Nat) : Int) < 0) := by omega
          generalize hJ : i + 1 + k = J at ht hk0
          have hP2 := row_below HP.out b2
          have c2 := (row_five hP2).2.2.1
          have fz2 : w2.frozen? ⟨wr.heap.size, 2, none⟩ = false := frozen_of_row _ _ _ _ _ hP2
          have HP2 : Hid _ := hP2
          have HR : Hid _ := hR
          have hwl := row_lt HP.out
          clear hP2 hR
          go_wp2
          go_meet
          case rel => exact ⟨_, _, wc.heap.size, LexC.mk2 hb hS0 HS.out (hbW2.setCell (by simp) _) ht (box_set HP2.out 2 _) rfl (fun _ => ⟨hbW.size, by unfold BRow; rw [Below.heap_setCell _ _ _ _ (fun e => absurd hwl (by rw [e]; exact Nat.lt_irrefl _))]; exact HR.out⟩) (by simp) (by simp)⟩
      by_cases e46 : C = 46
      case pos =>
        subst e46
        go_wp2_with fail
        refine (l1Bytes_ok 0 255 _ (by omega) (by omega)).mono ?_
        rintro e w2 ⟨rfl, hR, b2⟩
        have ht := tokF_46 Hat.out
        have hbW2 := below_step hbW hbW.size b2
        have hR : BRow w2 wc.heap.size (notB noB) := hR.congr fun c hc => by simp [rangeB, notB, noB]; omega
        have hP2 := row_below HP.out b2
        have c2 := (row_five hP2).2.2.1
        have fz2 : w2.frozen? ⟨wr.heap.size, 2, none⟩ = false := frozen_of_row _ _ _ _ _ hP2
        have HP2 : Hid _ := hP2
        have HR : Hid _ := hR
        have hwl := row_lt HP.out
        clear hP2 hR
        go_wp2
        go_meet
        case rel => exact ⟨_, _, wc.heap.size, LexC.mk2 hb hS0 HS.out (hbW2.setCell (by simp) _) ht (box_set HP2.out 2 _) rfl (fun _ => ⟨hbW.size, by unfold BRow; rw [Below.heap_setCell _ _ _ _ (fun e => absurd hwl (by rw [e]; exact Nat.lt_irrefl _))]; exact HR.out⟩) (by simp) (by simp)⟩
      by_cases e92 : C = 92
      case pos =>
        subst e92
        have ht := tokF_92 Hat.out
        obtain ⟨D, hD⟩ : ∃ D, D = atL t.data.toList (i + 1) := ⟨_, rfl⟩
        have hDb := atL_bd t.data.toList (i + 1)
        have hCA := l1AtL_ok t (i + 1) ((i : Int) + 1) wc (by omega)
        rw [← hD] at ht hCA hDb
        clear hD
        go_wp2_with fail
        refine hCA.mono ?_
        rintro e w3 ⟨rfl, hw⟩
        rw [hw]
        clear hw w3
        go_wp2_with fail
        refine (l1IsSpecial_ok D _).mono ?_
        rintro e w3 ⟨rfl, hw⟩
        rw [hw]
        clear hw w3
        cases hsp : specialB D with
        | false =>
          rw [hsp, if_neg (by decide)] at ht
          go_wp2
          refine bodyPost_ret (v := .tuple #[u5, .int .i64 2, .int .i64 i]) (by simp [results, Tryz.results9, go_sem]) rfl ?_
          refine ⟨below_step hb hS0 hbW, u5, q, ?_, ?_⟩
          · rw [HL.out, lexF_bad hltl ht]
          · rw [HL.out, lexF_bad hltl ht]; exact HS.out.below hbW
        | true =>
          rw [hsp, if_pos rfl] at ht
          have hD0 : 0 ≤ D := by
            rcases Int.lt_or_le D 0 with h | h
            · have : D = -1 := by omega
              subst this
              exact absurd hsp (by decide)
            · exact h
          go_wp2_with fail
          refine (l1Bytes_ok D D _ hD0 (by omega)).mono ?_
          rintro e w2 ⟨rfl, hR, b2⟩
          have hbW2 := below_step hbW hbW.size b2
          have hP2 := row_below HP.out b2
          have c2 := (row_five hP2).2.2.1
          have fz2 : w2.frozen? ⟨wr.heap.size, 2, none⟩ = false := frozen_of_row _ _ _ _ _ hP2
          have HP2 : Hid _ := hP2
          have HR : Hid _ := hR
          have hwl := row_lt HP.out
          clear hP2 hR
          go_wp2
          go_meet
          case rel => exact ⟨_, _, wc.heap.size, LexC.mk2 hb hS0 HS.out (hbW2.setCell (by simp) _) ht (box_set HP2.out 2 _) rfl (fun _ => ⟨hbW.size, by unfold BRow; rw [Below.heap_setCell _ _ _ _ (fun e => absurd hwl (by rw [e]; exact Nat.lt_irrefl _))]; exact HR.out⟩) (by simp) (by simp)⟩
      have ht := tokF_any (by rw [Hat.out]; exact e94) (by rw [Hat.out]; exact e36) (by rw [Hat.out]; exact e40) (by rw [Hat.out]; exact e41) (by rw [Hat.out]; exact e124) (by rw [Hat.out]; exact e42) (by rw [Hat.out]; exact e43) (by rw [Hat.out]; exact e63) (by rw [Hat.out]; exact e123) (by rw [Hat.out]; exact e91) (by rw [Hat.out]; exact e46) (by rw [Hat.out]; exact e92)
      rw [Hat.out] at ht
      have d94 : (C == 94) = false := by simpa using e94
      have d36 : (C == 36) = false := by simpa using e36
      have d40 : (C == 40) = false := by simpa using e40
      have d41 : (C == 41) = false := by simpa using e41
      have d124 : (C == 124) = false := by simpa using e124
      have d42 : (C == 42) = false := by simpa using e42
      have d43 : (C == 43) = false := by simpa using e43
      have d63 : (C == 63) = false := by simpa using e63
      have d123 : (C == 123) = false := by simpa using e123
      have d91 : (C == 91) = false := by simpa using e91
      have d46 : (C == 46) = false := by simpa using e46
      have d92 : (C == 92) = false := by simpa using e92
      clear e94 e36 e40 e41 e124 e42 e43 e63 e123 e91 e46 e92
      go_wp2_with fail
      refine (l1Bytes_ok C C _ hC0.1 hC0.2).mono ?_
      rintro e w2 ⟨rfl, hR, b2⟩
      have hbW2 := below_step hbW hbW.size b2
      have hP2 := row_below HP.out b2
      have c2 := (row_five hP2).2.2.1
      have fz2 : w2.frozen? ⟨wr.heap.size, 2, none⟩ = false := frozen_of_row _ _ _ _ _ hP2
      have HP2 : Hid _ := hP2
      have HR : Hid _ := hR
      have hwl := row_lt HP.out
      clear hP2 hR
      go_wp2
      go_meet
      case rel => exact ⟨_, _, wc.heap.size, LexC.mk2 hb hS0 HS.out (hbW2.setCell (by simp) _) ht (box_set HP2.out 2 _) rfl (fun _ => ⟨hbW.size, by unfold BRow; rw [Below.heap_setCell _ _ _ _ (fun e => absurd hwl (by rw [e]; exact Nat.lt_irrefl _))]; exact HR.out⟩) (by simp) (by simp)⟩
    obtain ⟨x, j, q0, hx⟩ := hcut
    obtain ⟨r, n0, c0, hsv⟩ : ∃ r n c, setV x q0 = .slice r n c := by unfold setV; split <;> exact ⟨_, _, _, rfl⟩
    have hbx := hx.box
    rw [tkC_end, hsv] at hbx
    have HE := tkC_end l x q q0
    rw [hsv] at HE
    generalize kB x.kind = K0 at hbx HE
    generalize (x.pos : Int) = P0 at hbx HE
    generalize (if x.kind = 1 then ((numN l l.length + 1 : Nat) : Int) else x.mn) = M0 at hbx HE
    generalize x.mx = X0 at hbx HE
    have HEE : Hid _ := HE
    have HX : Hid _ := hx
    have hij := (tokF_next hx.tok).1
    have hbs : w.heap.size ≤ wc.heap.size := hx.below.size
    obtain rfl := hx.v10e
    obtain rfl := hx.v6e
    obtain ⟨k0, k1, k2, k3, k4⟩ := row_five hbx
    clear hx HE hbx
    go_wp2_with (at_builtin; refine wpList_append_szW rfl (.tmp 119) (.tmp 121) 30 rfl wc #[.int .u8 K0, .int .i64 P0, .slice r n0 c0, .int .i64 M0, .int .i64 X0] 36 rfl wc.heap.size rfl w.heap.size iT _ 5 56 Tryz.underlying30 hjT hyT0 hyT1 hyT2 rfl (by omega) _ l.length (tksC l q) rfl HX.out.toks.row rfl rfl (by simp [Value.oneCell']) (by omega) (by omega) hbs ?_; intro g' cap' w4 own4 grow4 at4)
    have own4 : w4.ownsRow w.heap.size 36 5 (.slice (some ⟨g', 0, none⟩) (l.length + 1) cap') (l.length + 1) (tksC l q ++ tkC 0 (l ++ [x]) (fun k => if k = l.length then q0 else q k) l.length) := by rw [HEE.out]; exact own4
    have TN := HX.out.toks.more HX.out.set own4 grow4 at4
    have hb4 : Below w.heap.size w w4 := HX.out.below.grown grow4 hbs (fun k hk => (ownsRow_blk HX.out.toks.row hk).1)
    clear own4 grow4 at4
    go_wp2
    go_roundw
    case rel => exact ⟨l ++ [x], j, _, by rw [List.length_append]; rfl, rfl, by simp; omega, hb4, TN, by show _ = _; rw [HL.out, lexF_one hltl HX.out.tok]⟩
    case measure => simp [intOf]; omega
end Go.Proofs.YtgbdlgogccgciaaGreatDoor
