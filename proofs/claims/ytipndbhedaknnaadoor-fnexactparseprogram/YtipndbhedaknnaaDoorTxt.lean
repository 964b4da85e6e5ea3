import Derived.Test.YtipndbhedaknnaaDoorBtw
import Derived.Test.YtipndbhedaknnaaDoorRow
import Derived.Lib.SmallJoins
import Derived.Laws.IdiomStrings
import Derived.Deep.RegionHeld3
import Derived.Deep.DrawnRows
import Derived.Deep.QuietTactic
import Derived.BigQuiet
namespace Go.Proofs.YtipndbhedaknnaaDoor
open Go.RowKit
attribute [local go_sem ↓] Go.wp_at_zero Go.wp_at_succ

/- TEXTS CUT AT A BYTE. -/
theorem ret_slice {a : Option Addr} {n m c : Nat} (h : n = m) : Ending.returned (.slice a n c) = .returned (.slice a m c) := by rw [h]
theorem drop_at (t : ByteArray) (k : Nat) (h : k < t.size) : t.data.toList.drop k = t[k] :: t.data.toList.drop (k + 1) := by
  rw [List.drop_eq_getElem_cons (by simpa using h)]; rfl
theorem ext_list (t : ByteArray) (a b : Nat) : (t.extract a b).data.toList = (t.data.toList.drop a).take (b - a) := by
  simp [ByteArray.data_extract, List.extract]
theorem app_list (a b : ByteArray) : (a ++ b).data.toList = a.data.toList ++ b.data.toList := by simp [ByteArray.data_append]
theorem bytes_of {a : ByteArray} {l : List UInt8} (h : a.data.toList = l) : a = ⟨l.toArray⟩ := by subst h; cases a; simp
theorem toList_loop (b : ByteArray) : ∀ (n i : Nat) (r : List UInt8), b.size - i = n → ByteArray.toList.loop b i r = r.reverse ++ b.data.toList.drop i
  | 0, i, r, h => by
    rw [ByteArray.toList.loop, if_neg (by omega), List.drop_eq_nil_of_le (by rw [Array.length_toList]; show b.size ≤ i; omega)]
    simp
  | n + 1, i, r, h => by
    have hi : i < b.data.size := by show i < b.size; omega
    have hg : b.get! i = b.data[i] := by simp only [ByteArray.get!]; exact getElem!_pos b.data i hi
    rw [ByteArray.toList.loop, if_pos (by omega), toList_loop b n (i + 1) _ (by omega), List.drop_eq_getElem_cons (i := i) (by simpa using hi), hg]
    simp
theorem toList_eq (b : ByteArray) : b.toList = b.data.toList := by
  unfold ByteArray.toList
  rw [toList_loop b b.size 0 [] (by omega)]
  simp
def strV (l : List UInt8) : Value := .string ⟨l.toArray⟩
def cutF (c : UInt8) : List UInt8 → List (List UInt8)
  | [] => [[]]
  | x :: xs => if x = c then [] :: cutF c xs else match cutF c xs with
    | [] => [[x]]
    | h :: t => (x :: h) :: t
def glue (q : List UInt8) : List (List UInt8) → List (List UInt8)
  | [] => [q]
  | h :: t => (q ++ h) :: t
theorem cutF_ne (c : UInt8) (xs : List UInt8) : cutF c xs ≠ [] := by
  cases xs with
  | nil => simp [cutF]
  | cons x xs =>
    unfold cutF
    split
    · simp
    · split <;> simp
theorem glue_nil (c : UInt8) (xs : List UInt8) : glue [] (cutF c xs) = cutF c xs := by
  cases h : cutF c xs with
  | nil => exact absurd h (cutF_ne c xs)
  | cons a b => simp [glue]
theorem glue_sep (c : UInt8) (q xs : List UInt8) : glue q (cutF c (c :: xs)) = q :: cutF c xs := by simp [cutF, glue]
theorem glue_one {c x : UInt8} (q xs : List UInt8) (h : ¬x = c) : glue q (cutF c (x :: xs)) = glue (q ++ [x]) (cutF c xs) := by
  rw [cutF, if_neg h]
  cases e : cutF c xs with
  | nil => exact absurd e (cutF_ne c xs)
  | cons a b => simp [glue]
theorem glue_end (c : UInt8) (q : List UInt8) : glue q (cutF c []) = [q] := by simp [cutF, glue]
/-- Where the cutting stands: P are the parts that are whole, q is the last one so far. -/
structure CutSt (c : UInt8) (T : List UInt8) (k : Nat) (P : List (List UInt8)) (q : List UInt8) : Prop where
  eq : cutF c T = P ++ glue q (cutF c (T.drop k))
  le : P.length ≤ k
  ql : q.length ≤ k
theorem CutSt.start (c : UInt8) (T : List UInt8) : CutSt c T 0 [] [] := ⟨by rw [List.drop_zero, glue_nil]; rfl, Nat.le_refl _, Nat.le_refl _⟩
theorem CutSt.sep {c : UInt8} {T : List UInt8} {k : Nat} {P : List (List UInt8)} {q : List UInt8} (h : CutSt c T k P q) (hk : k < T.length) (hc : T[k] = c) : CutSt c T (k + 1) (P ++ [q]) [] := by
  refine ⟨?_, by have := h.le; simp; omega, Nat.zero_le _⟩
  rw [h.eq, List.drop_eq_getElem_cons hk, hc, glue_sep, glue_nil]
  simp
theorem CutSt.one {c : UInt8} {T : List UInt8} {k : Nat} {P : List (List UInt8)} {q : List UInt8} (h : CutSt c T k P q) (hk : k < T.length) (hc : ¬T[k] = c) : CutSt c T (k + 1) P (q ++ [T[k]]) := by
  refine ⟨?_, by have := h.le; omega, by have := h.ql; simp; omega⟩
  rw [h.eq, List.drop_eq_getElem_cons hk, glue_one _ _ hc]
theorem CutSt.full {c : UInt8} {T : List UInt8} {k : Nat} {P : List (List UInt8)} {q : List UInt8} (h : CutSt c T k P q) (hk : ¬k < T.length) : cutF c T = P ++ [q] := by
  rw [h.eq, List.drop_eq_nil_of_le (by omega), glue_end]

/-- A slice of texts, the call's own. -/
def Strs (B : Nat) (w : World) (g cap : Nat) (ls : List (List UInt8)) : Prop := w.ownsRow B 9 1 (.slice (some ⟨g, 0, none⟩) ls.length cap) ls.length (ls.map strV)
theorem ownsRow_lit (w : World) (e : TypeId) (u : Value) : (w.alloc (.cells #[u] e)).ownsRow w.heap.size e 1 (.slice (some ⟨w.heap.size, 0, none⟩) 1 1) 1 [u] :=
  ⟨rfl, .inr ⟨w.heap.size, 1, #[u], rfl, Nat.le_refl _, heap_alloc_new _ _, Nat.le_refl _, by unfold maxLen; omega, rfl, rfl⟩⟩
theorem Strs.cell {B g cap : Nat} {w : World} {ls : List (List UInt8)} (h : Strs B w g cap ls) {j : Nat} (hj : j < ls.length) : w.cell? ⟨g, j, none⟩ = some (strV ls[j]) := by
  have := h.cellAt j (by omega)
  rw [this]
  simp [hj]
theorem Strs.below {B g cap : Nat} {w w' : World} {ls : List (List UInt8)} (h : Strs B w g cap ls) (hb : Below w.heap.size w w') : Strs B w' g cap ls := ownsRow_below h hb
theorem Tryd.infoStr : (Tryd.prog.info? 9).map (fun i => (i.zero, i.size, i.bytes)) = some (some (.string ⟨#[]⟩), 1, 16) := by kernel_rfl

set_option maxRecDepth 100000 in
set_option maxHeartbeats 1000000 in
theorem l5Split_ok (t : ByteArray) (c : UInt8) (ci : Int) (w : World) (hci : ci = c.toNat) (hsz : t.size ≤ 1048576) :
    Calls Tryd.prog 15 #[.string t, .int .u8 ci] w fun e w' => ∃ g cap, e = .returned (.slice (some ⟨g, 0, none⟩) (cutF c t.data.toList).length cap) ∧ Strs w.heap.size w' g cap (cutF c t.data.toList) ∧ Below w.heap.size w w' := by
  obtain ⟨i0, hi, hz0, hz1, hz2⟩ := info_parts Tryd.infoStr
  go_enter Tryd.func15, Tryd.ntmps15
  go_wp2
  go_loopw [5, 6] (fun pv iv wr => ∃ (k : Nat) (P : List (List UInt8)) (q : List UInt8) (g cap : Nat), k ≤ t.size ∧ iv = .int .i64 k ∧ pv = .slice (some ⟨g, 0, none⟩) (P.length + 1) cap ∧ Hid (CutSt c t.data.toList k P q) ∧ wr.ownsRow w.heap.size 9 1 (.slice (some ⟨g, 0, none⟩) (P.length + 1) cap) (P.length + 1) (P.map strV ++ [strV q]) ∧ Below w.heap.size w wr)
    (fun _ i _ => t.size - (intOf i).toNat)
  case atStart => exact ⟨0, [], [], w.heap.size, 1, Nat.zero_le _, rfl, rfl, CutSt.start c _, ownsRow_lit w _ _, (Below.refl _ _).alloc (Nat.le_refl _) _⟩
  case round =>
    obtain ⟨k, P, q, g, cap, hk, rfl, rfl, HS, hown, hb⟩ := hrel
    have hbs := hb.size
    have hPk := HS.out.le
    have hgB := (own_form hown).1
    by_cases hlt : k < t.size
    · have hlt2 : k < t.data.toList.length := by simpa using hlt
      have hi0 : (0 : Int) ≤ (k : Int) := by omega
      have hi1 : (k : Int) < (t.size : Int) := by omega
      have hge : t.data.toList[k] = t[k] := rfl
      by_cases hc : t[k] = c
      · have hq : (t[k].toNat : Int) = ci := by rw [hc, hci]
        have HN : Hid (CutSt c t.data.toList (k + 1) (P ++ [q]) []) := HS.out.sep hlt2 (hge.trans hc)
        clear hc hci hge
        go_wp2_with (refine wpList_append_one _ rfl (.tmp 19) (.tmp 20) 35 rfl w.heap.size 9 i0 _ 16 Tryd.underlying35 hi hz0 hz1 hz2 rfl g cap (P.length + 1) (P.map strV ++ [strV q]) _ rfl hown rfl rfl (by omega) (by omega) hbs ?_; intro g' cap' w2 own2 grow2 at2)
        go_roundw
        case rel => exact ⟨k + 1, P ++ [q], [], g', cap', by omega, by go_num, by simp, HN, by simpa [strV] using own2, hb.grown grow2 hbs (by intro q hq; cases hq; exact hgB)⟩
        case measure => simp [intOf]; omega
      · have hq : (t[k].toNat : Int) ≠ ci := by
          intro e
          rw [hci] at e
          exact hc (UInt8.toNat_inj.1 (by omega))
        have HN : Hid (CutSt c t.data.toList (k + 1) P (q ++ [t[k]])) := by rw [← hge]; exact HS.out.one hlt2 (fun e => hc (hge.symm.trans e))
        have d0 : wr.cell? ⟨g, P.length, none⟩ = some (strV q) := by
          have := hown.cellAt P.length (by omega)
          rw [this]
          simp
        have f0 := hown.frozenAt P.length
        have j0 : (0 : Int) ≤ (P.length : Int) := by omega
        have hql := HS.out.ql
        obtain ⟨qb, hqb⟩ : ∃ qb : ByteArray, qb = ⟨q.toArray⟩ := ⟨_, rfl⟩
        have hqs : qb.size ≤ 1048576 := by rw [hqb]; show q.toArray.size ≤ _; simp; omega
        have HO : Hid (∀ W : World, W.ownsRow w.heap.size 9 1 (.slice (some ⟨g, 0, none⟩) (P.length + 1) cap) (P.length + 1) (P.map strV ++ [strV q]) → (W.setCell ⟨g, P.length, none⟩ (.string (qb ++ t.extract k (k + 1)))).ownsRow w.heap.size 9 1 (.slice (some ⟨g, 0, none⟩) (P.length + 1) cap) (P.length + 1) (P.map strV ++ [strV (q ++ [t[k]])])) := by
          intro W hW
          have h1 := (hW.stored P.length (.string (qb ++ t.extract k (k + 1)))).1
          have h2 : Value.string (qb ++ t.extract k (k + 1)) = strV (q ++ [t[k]]) := by
            unfold strV
            congr 1
            rw [hqb]
            apply bytes_of
            rw [app_list, ext_list, drop_at t k hlt]
            simp [show k + 1 - k = 1 by omega]
          rw [h2, List.set_append_right _ _ (by simp)] at h1
          rw [h2]
          simpa using h1
        unfold strV at d0
        rw [← hqb] at d0
        clear hc hci hge hqb hql HS
        go_wp2
        go_region
        all_goals
          go_wp2
          go_roundw
          case rel => exact ⟨k + 1, P, q ++ [t[k]], g, cap, by omega, by go_num, rfl, HN, HO.out _ hown.drew, hb.drew.setCell (by exact hgB) _⟩
          case measure => simp [intOf]; omega
    · have HF : Hid _ := HS.out.full (k := k) (by simpa using hlt)
      go_wp2
      go_ret
      exact ⟨g, cap, ret_slice (by rw [HF.out]; simp), by unfold Strs; rw [HF.out]; simpa using hown, hb⟩
end Go.Proofs.YtipndbhedaknnaaDoor
