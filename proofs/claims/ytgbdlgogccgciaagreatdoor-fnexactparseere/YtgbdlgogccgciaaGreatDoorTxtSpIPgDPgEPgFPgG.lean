import Derived.Test.YtgbdlgogccgciaaGreatDoorTxBBtwRowPeAPeB
import Derived.Lib.SmallJoins
import Derived.Laws.IdiomStrings
import Derived.Deep.RegionHeld3
import Derived.Deep.DrawnRows
import Derived.Deep.QuietTactic
import Derived.BigQuiet
import Derived.Lib.Bytealg
import Derived.BigCall
import Derived.BigGuard
import Derived.Test.YtgbdlgogccgciaaGreatDoorPgC
import Derived.Shelf.Lay
import Derived.Shelf.Strings.Cut
namespace Go.Proofs.YtgbdlgogccgciaaGreatDoor
open Go.RowKit
attribute [local go_sem ↓] Go.wp_at_zero Go.wp_at_succ

/- TEXTS CUT AT A BYTE. -/
def cutF (c : UInt8) : List UInt8 → List (List UInt8)
  | [] => [[]]
  | x :: xs => if x = c then [] :: cutF c xs else match cutF c xs with
    | [] => [[x]]
    | h :: t => (x :: h) :: t
def glue (q : List UInt8) : List (List UInt8) → List (List UInt8)
  | [] => [q]
  | h :: t => (q ++ h) :: t
theorem cutF_ne (c : UInt8) (xs : List UInt8) : cutF c xs ≠ [] := by
  cases xs with
  | nil => simp [cutF]
  | cons x xs =>
    unfold cutF
    split
    · simp
    · split <;> simp
theorem glue_nil (c : UInt8) (xs : List UInt8) : glue [] (cutF c xs) = cutF c xs := by
  cases h : cutF c xs with
  | nil => exact absurd h (cutF_ne c xs)
  | cons a b => simp [glue]
theorem glue_sep (c : UInt8) (q xs : List UInt8) : glue q (cutF c (c :: xs)) = q :: cutF c xs := by simp [cutF, glue]
theorem glue_one {c x : UInt8} (q xs : List UInt8) (h : ¬x = c) : glue q (cutF c (x :: xs)) = glue (q ++ [x]) (cutF c xs) := by
  rw [cutF, if_neg h]
  cases e : cutF c xs with
  | nil => exact absurd e (cutF_ne c xs)
  | cons a b => simp [glue]
theorem glue_end (c : UInt8) (q : List UInt8) : glue q (cutF c []) = [q] := by simp [cutF, glue]
/-- Where the cutting stands: P are the parts that are whole, q is the last one so far. -/
structure CutSt (c : UInt8) (T : List UInt8) (k : Nat) (P : List (List UInt8)) (q : List UInt8) : Prop where
  eq : cutF c T = P ++ glue q (cutF c (T.drop k))
  le : P.length ≤ k
  ql : q.length ≤ k
theorem CutSt.start (c : UInt8) (T : List UInt8) : CutSt c T 0 [] [] := ⟨by rw [List.drop_zero, glue_nil]; rfl, Nat.le_refl _, Nat.le_refl _⟩
theorem CutSt.sep {c : UInt8} {T : List UInt8} {k : Nat} {P : List (List UInt8)} {q : List UInt8} (h : CutSt c T k P q) (hk : k < T.length) (hc : T[k] = c) : CutSt c T (k + 1) (P ++ [q]) [] := by
  refine ⟨?_, by have := h.le; simp; omega, Nat.zero_le _⟩
  rw [h.eq, List.drop_eq_getElem_cons hk, hc, glue_sep, glue_nil]
  simp
theorem CutSt.one {c : UInt8} {T : List UInt8} {k : Nat} {P : List (List UInt8)} {q : List UInt8} (h : CutSt c T k P q) (hk : k < T.length) (hc : ¬T[k] = c) : CutSt c T (k + 1) P (q ++ [T[k]]) := by
  refine ⟨?_, by have := h.le; omega, by have := h.ql; simp; omega⟩
  rw [h.eq, List.drop_eq_getElem_cons hk, glue_one _ _ hc]
theorem CutSt.full {c : UInt8} {T : List UInt8} {k : Nat} {P : List (List UInt8)} {q : List UInt8} (h : CutSt c T k P q) (hk : ¬k < T.length) : cutF c T = P ++ [q] := by
  rw [h.eq, List.drop_eq_nil_of_le (by omega), glue_end]

/-- A slice of texts, the call's own. -/
def Strs (B : Nat) (w : World) (g cap : Nat) (ls : List (List UInt8)) : Prop := w.ownsRow B 9 1 (.slice (some ⟨g, 0, none⟩) ls.length cap) ls.length (ls.map strV)
theorem ownsRow_lit (w : World) (e : TypeId) (u : Value) : (w.alloc (.cells #[u] e)).ownsRow w.heap.size e 1 (.slice (some ⟨w.heap.size, 0, none⟩) 1 1) 1 [u] :=
  ⟨rfl, .inr ⟨w.heap.size, 1, #[u], rfl, Nat.le_refl _, heap_alloc_new _ _, Nat.le_refl _, by unfold maxLen; omega, rfl, rfl⟩⟩
theorem Strs.cell {B g cap : Nat} {w : World} {ls : List (List UInt8)} (h : Strs B w g cap ls) {j : Nat} (hj : j < ls.length) : w.cell? ⟨g, j, none⟩ = some (strV ls[j]) := by
  have := h.cellAt j (by omega)
  rw [this]
  simp [hj]
theorem Strs.below {B g cap : Nat} {w w' : World} {ls : List (List UInt8)} (h : Strs B w g cap ls) (hb : Below w.heap.size w w') : Strs B w' g cap ls := ownsRow_below h hb
theorem Tryz.infoStr : (Tryz.prog.info? 9).map (fun i => (i.zero, i.size, i.bytes)) = some (some (.string ⟨#[]⟩), 1, 16) := by kernel_rfl

end Go.Proofs.YtgbdlgogccgciaaGreatDoor
namespace Go.Proofs.YtgbdlgogccgciaaGreatDoor
open Go.RowKit
attribute [local go_sem ↓] Go.wp_at_zero Go.wp_at_succ

/- THE LIBRARY: a byte sought in a string. -/
set_option maxRecDepth 100000 in
set_option maxHeartbeats 1000000 in
theorem liteIndexByte_ok (s : ByteArray) (c : Int) (w : World) :
    Calls Tryz.prog 81 #[.string s, .int .u8 c] w fun e w' => e = .returned (.int .i64 (Lib.indexByte s.data.toList c.toNat.toUInt8)) ∧ w' = w := by
  go_enter Tryz.func81, Tryz.ntmps81
  go_wp2
  rw [run_callFunc_extern Tryz.func93 (by kernel_rfl) (by kernel_rfl) (by kernel_rfl) (e := Extern.BytealgIndexByte.indexByte) (by kernel_rfl), Lib.run_indexByteString]
  simp only [Result.andThen]
  rw [Oper.upon_value]
  go_wp2
  go_ret
  exact ⟨rfl, rfl⟩
set_option maxRecDepth 100000 in
set_option maxHeartbeats 1000000 in
theorem indexByte_ok (s : ByteArray) (c : Int) (w : World) :
    Calls Tryz.prog 65 #[.string s, .int .u8 c] w fun e w' => e = .returned (.int .i64 (Lib.indexByte s.data.toList c.toNat.toUInt8)) ∧ w' = w := by
  go_enter Tryz.func65, Tryz.ntmps65
  go_wp2_with (go_at_call 81; refine (liteIndexByte_ok _ _ _).mono ?_; rintro e w' ⟨rfl, rfl⟩)
  go_ret
  exact ⟨rfl, rfl⟩
/-- Where the first byte c stands: -1 where none is. -/
def posF (c : UInt8) (l : List UInt8) : Int := Lib.indexByte l c
theorem posF_head (c : UInt8) (l : List UInt8) : posF c (c :: l) = 0 := by simp [posF, Lib.indexByte]
theorem posF_nil (c : UInt8) : posF c [] = -1 := rfl
theorem posF_step (c x : UInt8) (l : List UInt8) (h : ¬x = c) : posF c (x :: l) = if posF c l = -1 then -1 else posF c l + 1 := by
  unfold posF
  rw [Lib.indexByte]
  simp [h]
set_option maxRecDepth 100000 in
set_option maxHeartbeats 1000000 in
theorem liteIndex_ok (s : ByteArray) (c : UInt8) (w : World) :
    Calls Tryz.prog 94 #[.string s, .string ⟨#[c]⟩] w fun e w' => e = .returned (.int .i64 (posF c s.data.toList)) ∧ w' = w := by
  have he : (c.toNat : Int).toNat.toUInt8 = c := by simp
  go_enter Tryz.func94, Tryz.ntmps94
  go_wp2_with (go_at_call 81; refine (liteIndexByte_ok _ _ _).mono ?_; rintro e w' ⟨rfl, rfl⟩)
  · have h : ([c] == s.toList) = true := by assumption
    have e : s.data.toList = [c] := by rw [← Lib.toList_data]; exact (beq_iff_eq.1 h).symm
    go_ret
    rw [e, posF_head]
    exact ⟨rfl, rfl⟩
  · go_ret
    exact ⟨rfl, rfl⟩
/- What the places say of the pieces. -/
theorem cut_none (c : UInt8) : ∀ l, posF c l = -1 → cutF c l = [l] ∧ l.count c = 0
  | [], _ => by simp [cutF]
  | x :: l, h => by
    by_cases hx : x = c
    · subst hx; rw [posF_head] at h; omega
    · rw [posF_step c x l hx] at h
      have h' : posF c l = -1 := by
        have := Lib.indexByte_ge l c
        unfold posF at h ⊢
        split at h <;> omega
      obtain ⟨e1, e2⟩ := cut_none c l h'
      rw [cutF, if_neg hx, e1]
      simp [hx, e2]
theorem cut_some (c : UInt8) : ∀ l, ¬posF c l = -1 → ∃ q r : List UInt8, l = q ++ c :: r ∧ posF c l = q.length ∧ cutF c l = q :: cutF c r ∧ l.count c = r.count c + 1
  | [], h => absurd (posF_nil c) h
  | x :: l, h => by
    by_cases hx : x = c
    · subst hx
      exact ⟨[], l, rfl, by rw [posF_head]; rfl, by rw [cutF, if_pos rfl], by simp⟩
    · rw [posF_step c x l hx] at h ⊢
      split at h
      · exact absurd rfl h
      · rename_i h0
        obtain ⟨q, r, e, h1, h2, h3⟩ := cut_some c l h0
        refine ⟨x :: q, r, by rw [e]; rfl, by rw [if_neg h0, h1]; simp, ?_, by rw [List.count_cons_of_ne (by simpa using hx), h3]⟩
        rw [cutF, if_neg hx, h2]
theorem cut_len (c : UInt8) : ∀ l : List UInt8, (cutF c l).length = l.count c + 1
  | [] => by simp [cutF]
  | x :: l => by
    by_cases hx : x = c
    · subst hx; rw [cutF, if_pos rfl]; simp [cut_len x l]
    · rw [cutF, if_neg hx, List.count_cons_of_ne (by simpa using hx), ← cut_len c l]
      cases h : cutF c l with
      | nil => exact absurd h (cutF_ne c l)
      | cons a b => rfl
end Go.Proofs.YtgbdlgogccgciaaGreatDoor
namespace Go.Proofs.YtgbdlgogccgciaaGreatDoor
open Go.RowKit
attribute [local go_sem ↓] Go.wp_at_zero Go.wp_at_succ

/- NUMBERS, THE CODE's SIDE. -/
def CntA (o : Option Nat) (e : Ending) : Prop := match o with
  | some n => e = .returned (.tuple #[.int .i64 (n : Int), .bool true])
  | none => ∃ z : Int, 0 ≤ z ∧ z ≤ 1000 ∧ e = .returned (.tuple #[.int .i64 z, .bool false])
theorem CntA.no {o : Option Nat} (h : o = none) {z : Int} (h0 : 0 ≤ z) (h1 : z ≤ 1000) : CntA o (.returned (.tuple #[.int .i64 z, .bool false])) := by subst h; exact ⟨z, h0, h1, rfl⟩
theorem CntA.yes {o : Option Nat} {n : Nat} (h : o = some n) : CntA o (.returned (.tuple #[.int .i64 (n : Int), .bool true])) := by subst h; rfl
set_option maxRecDepth 100000 in
set_option maxHeartbeats 1000000 in
theorem readCount_ok (t : ByteArray) (w : World) :
    Calls Tryz.prog 69 #[.string t] w fun e w' => CntA (countF t.data.toList) e ∧ w' = w := by
  have hlen : t.data.toList.length = t.size := Array.length_toList
  by_cases h1 : t.size < 1
  · have hs : (t.size : Int) < 1 := by omega
    have HR : Hid (countF t.data.toList = none) := by show _ = _; unfold countF; rw [if_neg (by omega)]
    clear hlen
    go_enter Tryz.func69, Tryz.ntmps69
    go_wp2
    refine bodyPost_ret (v := .tuple #[.int .i64 0, .bool false]) (by simp [results, Tryz.results69, go_sem]) rfl ?_
    exact ⟨.no HR.out (by omega) (by omega), rfl⟩
  by_cases h3 : 3 < t.size
  · have hs : ¬(t.size : Int) < 1 := by omega
    have hs2 : (3 : Int) < (t.size : Int) := by omega
    have HR : Hid (countF t.data.toList = none) := by show _ = _; unfold countF; rw [if_neg (by omega)]
    clear hlen
    go_enter Tryz.func69, Tryz.ntmps69
    go_wp2
    refine bodyPost_ret (v := .tuple #[.int .i64 0, .bool false]) (by simp [results, Tryz.results69, go_sem]) rfl ?_
    exact ⟨.no HR.out (by omega) (by omega), rfl⟩
  have hs : ¬(t.size : Int) < 1 := by omega
  have hs2 : ¬(3 : Int) < (t.size : Int) := by omega
  have Hlen : Hid _ := hlen
  clear hlen
  go_enter Tryz.func69, Tryz.ntmps69
  go_wp2
  go_loop [4, 5] (fun n i => ∃ j m : Nat, j ≤ t.size ∧ i = .int .i64 j ∧ n = .int .i64 (m : Int) ∧ m < 1000 ∧ Hid (m = valF (t.data.toList.take j) ∧ (t.data.toList.take j).all digB = true)) (fun _ i => t.size - (intOf i).toNat)
  case atStart => exact ⟨0, 0, by omega, rfl, rfl, by omega, rfl, rfl⟩
  case round =>
    obtain ⟨j, m, hj, rfl, rfl, hm, hv⟩ := hrel
    by_cases hlt : j < t.size
    · have hc : t[j].toNat < 256 := t[j].toNat_lt
      have h1' : (j : Int) < (t.size : Int) := by omega
      cases hd : digB t[j]
      · have HR : Hid (countF t.data.toList = none) := by
          show _ = _
          unfold countF
          rw [if_neg]
          rintro ⟨_, _, ha, _⟩
          rw [List.all_eq_true] at ha
          have hj2 : j < t.data.toList.length := by rw [Array.length_toList]; exact hlt
          have := ha t[j] (List.getElem_mem hj2)
          rw [hd] at this
          cases this
        have hd2 : ¬(48 ≤ t[j].toNat ∧ t[j].toNat ≤ 57) := by unfold digB at hd; exact of_decide_eq_false hd
        clear hd
        by_cases h48 : (t[j].toNat : Int) < 48
        · go_wp2
          refine bodyPost_ret (v := .tuple #[.int .i64 0, .bool false]) (by simp [results, Tryz.results69, go_sem]) rfl ?_
          exact ⟨.no HR.out (by omega) (by omega), rfl⟩
        · have h57 : (57 : Int) < (t[j].toNat : Int) := by omega
          go_wp2
          refine bodyPost_ret (v := .tuple #[.int .i64 0, .bool false]) (by simp [results, Tryz.results69, go_sem]) rfl ?_
          exact ⟨.no HR.out (by omega) (by omega), rfl⟩
      · have hd2 : 48 ≤ t[j].toNat ∧ t[j].toNat ≤ 57 := by unfold digB at hd; exact of_decide_eq_true hd
        have hb := valF_bd (j + 1) (t.data.toList.take (j + 1)) (by rw [List.length_take, Hlen.out]; omega) (by rw [take_get hlt, List.all_append, hv.out.2]; simpa using hd)
        rw [take_get hlt, valF_snoc, ← hv.out.1] at hb
        have Hn : Hid (m * 10 + (t[j].toNat - 48) = valF (t.data.toList.take (j + 1)) ∧ (t.data.toList.take (j + 1)).all digB = true) := by
          refine ⟨?_, ?_⟩
          · rw [take_get hlt, valF_snoc, ← hv.out.1]
          · rw [take_get hlt, List.all_append, hv.out.2]; simpa using hd
        have hb3 : m * 10 + (t[j].toNat - 48) < 1000 := by
          have : (10 : Nat) ^ (j + 1) ≤ 10 ^ 3 := Nat.pow_le_pow_right (by omega) (by omega)
          omega
        clear hb hd
        have a1 : ¬(t[j].toNat : Int) < 48 := by omega
        have a2 : ¬(57 : Int) < (t[j].toNat : Int) := by omega
        go_wp2
        go_round
        case rel => exact ⟨j + 1, m * 10 + (t[j].toNat - 48), by omega, by go_num, by go_num, hb3, Hn⟩
        case measure => simp [intOf]; omega
    · have hjj : j = t.size := by omega
      have hcf : countF t.data.toList = if m ≤ 255 then some m else none := by
        have e : t.data.toList.take j = t.data.toList := List.take_of_length_le (by rw [Hlen.out]; omega)
        have h := hv.out
        rw [e] at h
        unfold countF
        rw [← h.1]
        by_cases hm2 : m ≤ 255
        · rw [if_pos ⟨by rw [Hlen.out]; omega, by rw [Hlen.out]; omega, h.2, hm2⟩, if_pos hm2]
        · rw [if_neg (fun hh => hm2 hh.2.2.2), if_neg hm2]
      have HC := hid hcf
      clear hcf
      subst hjj
      by_cases hm2 : m ≤ 255
      · have hmi : (m : Int) ≤ 255 := by omega
        go_wp2
        refine bodyPost_ret (v := .tuple #[.int .i64 (m : Int), .bool true]) (by simp [results, Tryz.results69, go_sem]) rfl ?_
        exact ⟨.yes (by rw [HC.out, if_pos hm2]), rfl⟩
      · have hmi : ¬(m : Int) ≤ 255 := by omega
        go_wp2
        refine bodyPost_ret (v := .tuple #[.int .i64 (m : Int), .bool false]) (by simp [results, Tryz.results69, go_sem]) rfl ?_
        exact ⟨.no (by rw [HC.out, if_neg hm2]) (by omega) (by omega), rfl⟩
end Go.Proofs.YtgbdlgogccgciaaGreatDoor
namespace Go.Proofs.YtgbdlgogccgciaaGreatDoor
open Go.RowKit
attribute [local go_sem ↓] Go.wp_at_zero Go.wp_at_succ

/- ESCAPES. -/
def tokZV : Value := .agg #[.int .i64 0, .int .i64 0, .slice none 0 0, .int .i64 0, .int .i64 0]
def faultV (c : Int) (i : Nat) : Value := .iface 51 (.agg #[.int .i64 c, .int .i64 (i : Int)])
/-- What the readers of a token answer. -/
def RdA (w : World) (i : Nat) (r : Int ⊕ (Tok × Nat)) (e : Ending) (w' : World) : Prop := Below w.heap.size w w' ∧ match r with
  | .inl c => e = .returned (.tuple #[tokZV, .int .i64 0, faultV c i])
  | .inr (x, j) => ∃ v, e = .returned (.tuple #[v, .int .i64 (j : Int), .nilIface]) ∧ TokV w.heap.size w' x v
theorem RdA.bad {w w' : World} {i : Nat} {r : Int ⊕ (Tok × Nat)} {c : Int} (h : r = .inl c) (hb : Below w.heap.size w w') : RdA w i r (.returned (.tuple #[.agg #[.int .i64 0, .int .i64 0, .slice none 0 0, .int .i64 0, .int .i64 0], .int .i64 0, .iface 51 (.agg #[.int .i64 c, .int .i64 (i : Int)])])) w' := by subst h; exact ⟨hb, rfl⟩
theorem RdA.good {w w' : World} {i j : Nat} {r : Int ⊕ (Tok × Nat)} {x : Tok} {v : Value} {z : Int} (h : r = .inr (x, j)) (hb : Below w.heap.size w w') (hv : TokV w.heap.size w' x v) (hz : z = (j : Int)) : RdA w i r (.returned (.tuple #[v, .int .i64 z, .nilIface])) w' := by subst h hz; exact ⟨hb, v, rfl, hv⟩

set_option maxRecDepth 100000 in
theorem specials_index (d : UInt8) : (0 ≤ Lib.indexByte [92, 94, 46, 91, 93, 36, 40, 41, 124, 42, 43, 63, 123, 125] d) ↔ specialB (d.toNat : Int) = true := by
  have h : ∀ n : Fin 256, (decide (0 ≤ Lib.indexByte [92, 94, 46, 91, 93, 36, 40, 41, 124, 42, 43, 63, 123, 125] (UInt8.ofNat n.val))) = specialB (n.val : Int) := by decide
  have h1 := h ⟨d.toNat, d.toNat_lt⟩
  have h2 : UInt8.ofNat d.toNat = d := by simp
  rw [h2] at h1
  rw [← h1]
  simp
set_option maxRecDepth 100000 in
set_option maxHeartbeats 2000000 in
theorem readEscape_ok (t : ByteArray) (i : Nat) (w : World) (hi : i < t.size) (hs : t.size ≤ 2000) (h92 : atL t.data.toList i = 92) :
    Calls Tryz.prog 47 #[.string t, .int .i64 (i : Int)] w (RdA w i (tokF t.data.toList i)) := by
  have h1 : (i : Int) < (t.size : Int) := by omega
  have hzv := (zero_of_info Tryz.zeroMarks).1
  have ht := tokF_92 h92
  by_cases hl : i + 1 < t.size
  case neg =>
    have e0 : ((i : Int) + 1 == (t.size : Int)) = true := by simp; omega
    have hn : specialB (atL t.data.toList (i + 1)) = false := by rw [atL_none (by rw [Array.length_toList]; show t.size ≤ i + 1; omega)]; decide
    rw [hn, if_neg (by decide)] at ht
    have HT := hid ht
    clear ht hn
    go_enter Tryz.func47, Tryz.ntmps47
    go_wp2
    refine bodyPost_ret (v := .tuple #[.agg #[.int .i64 0, .int .i64 0, .slice none 0 0, .int .i64 0, .int .i64 0], .int .i64 0, .iface 51 (.agg #[.int .i64 2, .int .i64 (i : Int)])]) (by simp [results, Tryz.results47, go_sem]) rfl ?_
    exact .bad HT.out ((Below.refl _ _).alloc (Nat.le_refl _) _)
  have hc : t[i + 1].toNat < 256 := t[i + 1].toNat_lt
  have e0 : ((i : Int) + 1 == (t.size : Int)) = false := by simp; omega
  have i1 : (i : Int) + 1 < (t.size : Int) := by omega
  have i2 : ((i : Int) + 1).toNat = i + 1 := by omega
  rw [atL_byte hl] at ht
  obtain ⟨W1, hW1⟩ : ∃ W1, W1 = w.alloc (.cells #[.int .i64 0, .int .i64 0, .slice none 0 0, .int .i64 0, .int .i64 0] 105) := ⟨_, rfl⟩
  have hP : W1.heap[w.heap.size]? = some (.cells #[.int .i64 0, .int .i64 0, .slice none 0 0, .int .i64 0, .int .i64 0] 105 (0, 0)) := by rw [hW1]; exact heap_alloc_new _ _
  have hb1 : Below w.heap.size w W1 := by rw [hW1]; exact (Below.refl _ _).alloc (Nat.le_refl _) _
  have hcc : (t[i + 1].toNat : Int).toNat.toUInt8 = t[i + 1] := by simp
  have hsp := specials_index t[i + 1]
  have hC := indexByte_ok ⟨#[92, 94, 46, 91, 93, 36, 40, 41, 124, 42, 43, 63, 123, 125]⟩ (t[i + 1].toNat : Int) W1
  rw [hcc] at hC
  obtain ⟨X, hX⟩ : ∃ X, X = Lib.indexByte [92, 94, 46, 91, 93, 36, 40, 41, 124, 42, 43, 63, 123, 125] t[i + 1] := ⟨_, rfl⟩
  have hC : Calls Tryz.prog 65 #[.string ⟨#[92, 94, 46, 91, 93, 36, 40, 41, 124, 42, 43, 63, 123, 125]⟩, .int .u8 (t[i + 1].toNat : Int)] W1 fun e w' => e = .returned (.int .i64 X) ∧ w' = W1 := by rw [hX]; exact hC
  rw [← hX] at hsp
  clear hX hcc
  generalize hD : (t[i + 1].toNat : Int) = D at *
  have hD0 : 0 ≤ D ∧ D ≤ 255 := by omega
  cases hq : specialB D with
  | false =>
    have hneg : X < 0 := by
      rcases Int.lt_or_le X 0 with h2 | h2
      · exact h2
      · rw [hsp.1 h2] at hq; cases hq
    rw [hq, if_neg (by decide)] at ht
    have HT := hid ht
    obtain ⟨r0, r1, r2, r3, r4⟩ := row_five hP
    clear ht hsp hq
    have fz : ∀ o, W1.frozen? ⟨w.heap.size, o, none⟩ = false := fun o => frozen_of_row _ _ _ _ _ hP
    have g0 := fz 0
    have g1 := fz 1
    have g2 := fz 2
    have g3 := fz 3
    have g4 := fz 4
    clear fz
    go_enter Tryz.func47, Tryz.ntmps47
    go_wp2_with fail
    rw [← hW1]
    clear hW1
    try rw [hD]
    refine hC.mono ?_
    rintro e w' ⟨rfl, hw⟩
    rw [hw]
    clear hw w' hC
    go_wp2
    refine bodyPost_ret (v := .tuple #[.agg #[.int .i64 0, .int .i64 0, .slice none 0 0, .int .i64 0, .int .i64 0], .int .i64 0, .iface 51 (.agg #[.int .i64 2, .int .i64 (i : Int)])]) (by simp [results, Tryz.results47, go_sem, r0, r1, r2, r3, r4]) rfl ?_
    exact .bad HT.out (((((hb1.setCell (by simp) _).setCell (by simp) _).setCell (by simp) _).setCell (by simp) _).setCell (by simp) _)
  | true =>
    have hpos : ¬X < 0 := by have := hsp.2 hq; omega
    rw [hq, if_pos rfl] at ht
    have HT := hid ht
    clear ht hsp hq
    go_enter Tryz.func47, Tryz.ntmps47
    go_wp2_with fail
    rw [← hW1]
    clear hW1
    try rw [hD]
    refine hC.mono ?_
    rintro e w' ⟨rfl, hw⟩
    rw [hw]
    clear hw w' hC
    go_wp2_with fail
    try rw [hD]
    refine (with_ok (fun _ => false) D D W1 hD0.1 hD0.2).mono ?_
    rintro e w2 ⟨rfl, hb2⟩
    go_wp2_with fail
    refine (atom_ok _ _ w2).mono ?_
    rintro e w3 ⟨ao, n, cap, rfl, hR, hb3⟩
    have hb23 := (show w.heap.size ≤ w2.heap.size from Nat.le_trans hb1.size hb2.size)
    have hP2 := row_below (row_below hP hb2) hb3
    obtain ⟨z0, z1, z2, z3, z4⟩ := row_five hP2
    have fz : ∀ o, w3.frozen? ⟨w.heap.size, o, none⟩ = false := fun o => frozen_of_row _ _ _ _ _ hP2
    have g0 := fz 0
    have g1 := fz 1
    have g2 := fz 2
    have g3 := fz 3
    have g4 := fz 4
    have hbb := below_step (below_step hb1 hb1.size hb2) hb23 hb3
    have hs2 := hb2.size
    have hpl := row_lt hP
    have HR := hid hR
    clear hR fz
    go_wp2
    refine bodyPost_ret (v := .tuple #[.agg #[.int .i64 0, .int .i64 i, .slice ao n cap, .int .i64 0, .int .i64 0], .int .i64 ((i : Int) + 1 + 1), .nilIface]) (by simp [results, Tryz.results47, go_sem, z0, z1, z2, z3, z4]) rfl ?_
    refine .good HT.out (((((hbb.setCell (by simp) _).setCell (by simp) _).setCell (by simp) _).setCell (by simp) _).setCell (by simp) _) ⟨ao, n, cap, rfl, fun _ => ?_, fun h => absurd rfl h⟩ (by omega)
    have hR2 := ownsRow_mono HR.out hb23
    rw [rngF_congr (g := rangeB D D) (fun c _ => by simp [markIn, rangeB]) 256 (Nat.le_refl _)] at hR2
    refine ownsRow_keep hR2 fun b hb => ?_
    have := (ownsRow_blk HR.out hb).1
    have hne : b ≠ w.heap.size := by omega
    repeat rw [Below.heap_setCell _ _ _ _ hne]
end Go.Proofs.YtgbdlgogccgciaaGreatDoor
namespace Go.Proofs
open Go.Shelf
shelf_lay Lays.n145 Nm 145 at Tryz as Tryz.lays145
end Go.Proofs
namespace Go.Proofs.YtgbdlgogccgciaaGreatDoor
open Go.RowKit
/- strings.Cut, by the kit's shelf. -/
theorem cut_ok (s sep : ByteArray) (m : Int) (w : World) (hs : s.size < 4294967281) (hm : w.cell? ⟨1, 0, none⟩ = some (.int .i64 m)) :
    Calls Tryz.prog 68 #[.string s, .string sep] w fun e w' => e = .returned (.tuple #[.string ⟨(Lib.cut s.data.toList sep.data.toList).1.toArray⟩, .string ⟨(Lib.cut s.data.toList sep.data.toList).2.1.toArray⟩, .bool (Lib.cut s.data.toList sep.data.toList).2.2]) ∧ ∃ n, w' = w.drewN n := Any.strings_Cut Tryz.lays145 s sep m w hs hm
end Go.Proofs.YtgbdlgogccgciaaGreatDoor
namespace Go.Proofs.YtgbdlgogccgciaaGreatDoor
open Go.RowKit
attribute [local go_sem ↓] Go.wp_at_zero Go.wp_at_succ

/- CUTS: the library's against the table's. -/
theorem index_cut1 (c : UInt8) : ∀ l : List UInt8, match cut1 c l with
    | some (q, _) => Lib.index l [c] = (q.length : Int)
    | none => Lib.index l [c] = -1
  | [] => rfl
  | x :: l => by
    have ih := index_cut1 c l
    unfold cut1
    by_cases h : x = c
    · rw [if_pos h]
      show Lib.index (x :: l) [c] = 0
      unfold Lib.index
      rw [if_pos (by simp [List.isPrefixOf, h])]
    · rw [if_neg h]
      have hi : Lib.index (x :: l) [c] = if Lib.index l [c] == -1 then -1 else Lib.index l [c] + 1 := by
        conv => lhs; unfold Lib.index
        rw [if_neg (by simp [List.isPrefixOf]; exact fun e => h e.symm)]
      cases hc : cut1 c l with
      | none => rw [hc] at ih; simp only [Option.map]; rw [hi, ih]; rfl
      | some p =>
        obtain ⟨q, r⟩ := p
        rw [hc] at ih
        simp only [Option.map]
        have ih : Lib.index l [c] = (q.length : Int) := ih
        rw [hi, ih, if_neg (by simp)]
        simp
theorem cut_cut1 {c : UInt8} {l q r : List UInt8} (h : cut1 c l = some (q, r)) : Lib.cut l [c] = (q, r, true) := by
  have h1 := index_cut1 c l
  rw [h] at h1
  have h1 : Lib.index l [c] = (q.length : Int) := h1
  obtain ⟨h2, _⟩ := cut1_some h
  unfold Lib.cut
  rw [h1, if_pos (by omega), Int.toNat_natCast, h2]
  simp
theorem cut_cut1_none {c : UInt8} {l : List UInt8} (h : cut1 c l = none) : Lib.cut l [c] = (l, [], false) := by
  have h1 := index_cut1 c l
  rw [h] at h1
  have h1 : Lib.index l [c] = -1 := h1
  unfold Lib.cut
  rw [h1, if_neg (by omega)]
theorem index_cut2 (c d : UInt8) : ∀ l : List UInt8, match cut2 c d l with
    | some (q, _) => Lib.index l [c, d] = (q.length : Int)
    | none => Lib.index l [c, d] = -1
  | [] => rfl
  | x :: l => by
    have ih := index_cut2 c d l
    unfold cut2
    have hpre : [c, d].isPrefixOf (x :: l) = true ↔ (x = c ∧ l.head? = some d) := by
      cases l with
      | nil => simp [List.isPrefixOf]
      | cons y l => simp [List.isPrefixOf]; exact ⟨fun h => ⟨h.1.symm, h.2.symm⟩, fun h => ⟨h.1.symm, h.2.symm⟩⟩
    by_cases h : x = c ∧ l.head? = some d
    · rw [if_pos h]
      show Lib.index (x :: l) [c, d] = 0
      unfold Lib.index
      rw [if_pos (hpre.2 h)]
    · rw [if_neg h]
      have hi : Lib.index (x :: l) [c, d] = if Lib.index l [c, d] == -1 then -1 else Lib.index l [c, d] + 1 := by
        conv => lhs; unfold Lib.index
        rw [if_neg (fun e => h (hpre.1 e))]
      cases hc : cut2 c d l with
      | none => rw [hc] at ih; simp only [Option.map]; rw [hi, ih]; rfl
      | some p =>
        obtain ⟨q, r⟩ := p
        rw [hc] at ih
        simp only [Option.map]
        have ih : Lib.index l [c, d] = (q.length : Int) := ih
        rw [hi, ih, if_neg (by simp)]
        simp
theorem cut_cut2 {c d : UInt8} {l q r : List UInt8} (h : cut2 c d l = some (q, r)) : Lib.cut l [c, d] = (q, r, true) := by
  have h1 := index_cut2 c d l
  rw [h] at h1
  have h1 : Lib.index l [c, d] = (q.length : Int) := h1
  obtain ⟨h2, _⟩ := cut2_some h
  unfold Lib.cut
  rw [h1, if_pos (by omega), Int.toNat_natCast, h2]
  simp
theorem cut_cut2_none {c d : UInt8} {l : List UInt8} (h : cut2 c d l = none) : Lib.cut l [c, d] = (l, [], false) := by
  have h1 := index_cut2 c d l
  rw [h] at h1
  have h1 : Lib.index l [c, d] = -1 := h1
  unfold Lib.cut
  rw [h1, if_neg (by omega)]
theorem below_drewN {B : Nat} {a w : World} (h : Below B a w) (n : Nat) : Below B a (w.drewN n) := ⟨h.os, h.tape, h.output, h.size, h.block⟩
def BA (l : List UInt8) : ByteArray := ⟨l.toArray⟩
theorem BA_list (l : List UInt8) : (BA l).data.toList = l := rfl
theorem BA_size (l : List UInt8) : (BA l).size = l.length := by simp [BA, ByteArray.size]
/-- strings.Cut at one byte. -/
theorem cut1_ok (s : ByteArray) (c : UInt8) (m : Int) (w : World) (hs : s.size < 4294967281) (hm : w.cell? ⟨1, 0, none⟩ = some (.int .i64 m)) :
    Calls Tryz.prog 68 #[.string s, .string ⟨#[c]⟩] w fun e w' => (∃ n, w' = w.drewN n) ∧ match cut1 c s.data.toList with
      | some (q, r) => e = .returned (.tuple #[.string (BA q), .string (BA r), .bool true])
      | none => e = .returned (.tuple #[.string (BA s.data.toList), .string (BA []), .bool false]) := by
  refine (cut_ok s ⟨#[c]⟩ m w hs hm).mono ?_
  rintro e w' ⟨rfl, n, hw⟩
  refine ⟨⟨n, hw⟩, ?_⟩
  show match cut1 c s.data.toList with | some (q, r) => _ | none => _
  cases h : cut1 c s.data.toList with
  | none =>
    have := cut_cut1_none h
    show Ending.returned (.tuple #[.string ⟨(Lib.cut s.data.toList [c]).1.toArray⟩, .string ⟨(Lib.cut s.data.toList [c]).2.1.toArray⟩, .bool (Lib.cut s.data.toList [c]).2.2]) = _
    rw [this]; rfl
  | some p =>
    obtain ⟨q, r⟩ := p
    have := cut_cut1 h
    show Ending.returned (.tuple #[.string ⟨(Lib.cut s.data.toList [c]).1.toArray⟩, .string ⟨(Lib.cut s.data.toList [c]).2.1.toArray⟩, .bool (Lib.cut s.data.toList [c]).2.2]) = _
    rw [this]; rfl
theorem cut2_ok (s : ByteArray) (c d : UInt8) (m : Int) (w : World) (hs : s.size < 4294967281) (hm : w.cell? ⟨1, 0, none⟩ = some (.int .i64 m)) :
    Calls Tryz.prog 68 #[.string s, .string ⟨#[c, d]⟩] w fun e w' => (∃ n, w' = w.drewN n) ∧ match cut2 c d s.data.toList with
      | some (q, r) => e = .returned (.tuple #[.string (BA q), .string (BA r), .bool true])
      | none => e = .returned (.tuple #[.string (BA s.data.toList), .string (BA []), .bool false]) := by
  refine (cut_ok s ⟨#[c, d]⟩ m w hs hm).mono ?_
  rintro e w' ⟨rfl, n, hw⟩
  refine ⟨⟨n, hw⟩, ?_⟩
  show match cut2 c d s.data.toList with | some (q, r) => _ | none => _
  cases h : cut2 c d s.data.toList with
  | none =>
    have := cut_cut2_none h
    show Ending.returned (.tuple #[.string ⟨(Lib.cut s.data.toList [c, d]).1.toArray⟩, .string ⟨(Lib.cut s.data.toList [c, d]).2.1.toArray⟩, .bool (Lib.cut s.data.toList [c, d]).2.2]) = _
    rw [this]; rfl
  | some p =>
    obtain ⟨q, r⟩ := p
    have := cut_cut2 h
    show Ending.returned (.tuple #[.string ⟨(Lib.cut s.data.toList [c, d]).1.toArray⟩, .string ⟨(Lib.cut s.data.toList [c, d]).2.1.toArray⟩, .bool (Lib.cut s.data.toList [c, d]).2.2]) = _
    rw [this]; rfl
/-- What a reading of an interval comes to. -/
def ansI (closed cm hE : Bool) (o1 o2 : Option Nat) : Option (Int × Int) :=
  if closed = false then none else match o1 with
    | none => none
    | some a => if cm = false then some ((a : Int), (a : Int)) else if hE = true then some ((a : Int), -1) else match o2 with
      | none => none
      | some b => if a ≤ b then some ((a : Int), (b : Int)) else none
end Go.Proofs.YtgbdlgogccgciaaGreatDoor
