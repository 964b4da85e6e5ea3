import Derived.Test.YtgbdlgogccgciaaGreatDoorGenDatPeG
import Derived.Deep.DrawnRows
import Derived.Test.YtgbdlgogccgciaaGreatDoorPeOPeL
namespace Go.Proofs.YtgbdlgogccgciaaGreatDoor
open Go.RowKit

/- TEXTS AS LISTS OF BYTES (for every seat). -/
theorem ret_slice {a : Option Addr} {n m c : Nat} (h : n = m) : Ending.returned (.slice a n c) = .returned (.slice a m c) := by rw [h]
theorem drop_at (t : ByteArray) (k : Nat) (h : k < t.size) : t.data.toList.drop k = t[k] :: t.data.toList.drop (k + 1) := by
  rw [List.drop_eq_getElem_cons (by simpa using h)]; rfl
theorem ext_list (t : ByteArray) (a b : Nat) : (t.extract a b).data.toList = (t.data.toList.drop a).take (b - a) := by
  simp [ByteArray.data_extract, List.extract]
theorem app_list (a b : ByteArray) : (a ++ b).data.toList = a.data.toList ++ b.data.toList := by simp [ByteArray.data_append]
theorem bytes_of {a : ByteArray} {l : List UInt8} (h : a.data.toList = l) : a = ⟨l.toArray⟩ := by subst h; cases a; simp
theorem toList_loop (b : ByteArray) : ∀ (n i : Nat) (r : List UInt8), b.size - i = n → ByteArray.toList.loop b i r = r.reverse ++ b.data.toList.drop i
  | 0, i, r, h => by
    rw [ByteArray.toList.loop, if_neg (by omega), List.drop_eq_nil_of_le (by rw [Array.length_toList]; show b.size ≤ i; omega)]
    simp
  | n + 1, i, r, h => by
    have hi : i < b.data.size := by show i < b.size; omega
    have hg : b.get! i = b.data[i] := by simp only [ByteArray.get!]; exact getElem!_pos b.data i hi
    rw [ByteArray.toList.loop, if_pos (by omega), toList_loop b n (i + 1) _ (by omega), List.drop_eq_getElem_cons (i := i) (by simpa using hi), hg]
    simp
theorem toList_eq (b : ByteArray) : b.toList = b.data.toList := by
  unfold ByteArray.toList
  rw [toList_loop b b.size 0 [] (by omega)]
  simp
def strV (l : List UInt8) : Value := .string ⟨l.toArray⟩
end Go.Proofs.YtgbdlgogccgciaaGreatDoor
namespace Go.Proofs.YtgbdlgogccgciaaGreatDoor
open Go.RowKit

def btw (c lo hi : Int) : Bool := decide (lo ≤ c ∧ c ≤ hi)

set_option maxHeartbeats 400000 in
theorem between_ok (c lo hi : Int) (w : World) : Calls Tryz.prog 63 #[.int .i64 c, .int .i64 lo, .int .i64 hi] w fun e w' => e = .returned (.bool (btw c lo hi)) ∧ w' = w := by
  by_cases h1 : lo ≤ c
  · by_cases h2 : c ≤ hi
    all_goals
      go_enter Tryz.func63, Tryz.ntmps63
      go_wp2
      go_ret
      exact ⟨ret_bool (by simp [btw]; omega), rfl⟩
  · go_enter Tryz.func63, Tryz.ntmps63
    go_wp2
    go_ret
    exact ⟨ret_bool (by simp [btw]; omega), rfl⟩

end Go.Proofs.YtgbdlgogccgciaaGreatDoor
namespace Go.Proofs.YtgbdlgogccgciaaGreatDoor
open Go.RowKit

/- WHOLE ROWS, carried along. -/
theorem row_below {w w' : World} {g : Nat} {o : Obj} (h : w.heap[g]? = some o) (hb : Below w.heap.size w w') : w'.heap[g]? = some o := (hb.block g (Array.getElem?_eq_some_iff.1 h).1).trans h
theorem row_lt {w : World} {g : Nat} {o : Obj} (h : w.heap[g]? = some o) : g < w.heap.size := (Array.getElem?_eq_some_iff.1 h).1
theorem row_cells {w : World} {g : Nat} {C : Array Value} {t : TypeId} (h : w.heap[g]? = some (.cells C t (0, 0))) : ∀ o, w.cell? ⟨g, o, none⟩ = C[o]? := fun _ => cell_of_row _ _ _ _ _ _ h
theorem row_five {w : World} {g : Nat} {a b c d e : Value} {t : TypeId} (h : w.heap[g]? = some (.cells #[a, b, c, d, e] t (0, 0))) : w.cell? ⟨g, 0, none⟩ = some a ∧ w.cell? ⟨g, 1, none⟩ = some b ∧ w.cell? ⟨g, 2, none⟩ = some c ∧ w.cell? ⟨g, 3, none⟩ = some d ∧ w.cell? ⟨g, 4, none⟩ = some e :=
  ⟨row_cells h 0, row_cells h 1, row_cells h 2, row_cells h 3, row_cells h 4⟩
theorem rows_ten {w : World} {g g' : Nat} {a b c d e a' b' c' d' e' : Value} {t t' : TypeId} (h : w.heap[g]? = some (.cells #[a, b, c, d, e] t (0, 0))) (h' : w.heap[g']? = some (.cells #[a', b', c', d', e'] t' (0, 0))) :
    w.cell? ⟨g, 0, none⟩ = some a ∧ w.cell? ⟨g, 1, none⟩ = some b ∧ w.cell? ⟨g, 2, none⟩ = some c ∧ w.cell? ⟨g, 3, none⟩ = some d ∧ w.cell? ⟨g, 4, none⟩ = some e ∧
    w.cell? ⟨g', 0, none⟩ = some a' ∧ w.cell? ⟨g', 1, none⟩ = some b' ∧ w.cell? ⟨g', 2, none⟩ = some c' ∧ w.cell? ⟨g', 3, none⟩ = some d' ∧ w.cell? ⟨g', 4, none⟩ = some e' :=
  ⟨row_cells h 0, row_cells h 1, row_cells h 2, row_cells h 3, row_cells h 4, row_cells h' 0, row_cells h' 1, row_cells h' 2, row_cells h' 3, row_cells h' 4⟩
theorem row_drew {w : World} {g : Nat} {o : Obj} (h : w.heap[g]? = some o) : w.drew.heap[g]? = some o := h
theorem row_eight {w : World} {g : Nat} {a b c d e f h i : Value} {t : TypeId} (z : w.heap[g]? = some (.cells #[a, b, c, d, e, f, h, i] t (0, 0))) : w.cell? ⟨g, 0, none⟩ = some a ∧ w.cell? ⟨g, 1, none⟩ = some b ∧ w.cell? ⟨g, 2, none⟩ = some c ∧ w.cell? ⟨g, 3, none⟩ = some d ∧ w.cell? ⟨g, 4, none⟩ = some e ∧ w.cell? ⟨g, 5, none⟩ = some f ∧ w.cell? ⟨g, 6, none⟩ = some h ∧ w.cell? ⟨g, 7, none⟩ = some i :=
  ⟨row_cells z 0, row_cells z 1, row_cells z 2, row_cells z 3, row_cells z 4, row_cells z 5, row_cells z 6, row_cells z 7⟩
theorem rows_sixteen {w : World} {g g' : Nat} {a b c d e f h i a' b' c' d' e' f' h' i' : Value} {t t' : TypeId} (z : w.heap[g]? = some (.cells #[a, b, c, d, e, f, h, i] t (0, 0))) (z' : w.heap[g']? = some (.cells #[a', b', c', d', e', f', h', i'] t' (0, 0))) : w.cell? ⟨g, 0, none⟩ = some a ∧ w.cell? ⟨g, 1, none⟩ = some b ∧ w.cell? ⟨g, 2, none⟩ = some c ∧ w.cell? ⟨g, 3, none⟩ = some d ∧ w.cell? ⟨g, 4, none⟩ = some e ∧ w.cell? ⟨g, 5, none⟩ = some f ∧ w.cell? ⟨g, 6, none⟩ = some h ∧ w.cell? ⟨g, 7, none⟩ = some i ∧ w.cell? ⟨g', 0, none⟩ = some a' ∧ w.cell? ⟨g', 1, none⟩ = some b' ∧ w.cell? ⟨g', 2, none⟩ = some c' ∧ w.cell? ⟨g', 3, none⟩ = some d' ∧ w.cell? ⟨g', 4, none⟩ = some e' ∧ w.cell? ⟨g', 5, none⟩ = some f' ∧ w.cell? ⟨g', 6, none⟩ = some h' ∧ w.cell? ⟨g', 7, none⟩ = some i' :=
  ⟨row_cells z 0, row_cells z 1, row_cells z 2, row_cells z 3, row_cells z 4, row_cells z 5, row_cells z 6, row_cells z 7, row_cells z' 0, row_cells z' 1, row_cells z' 2, row_cells z' 3, row_cells z' 4, row_cells z' 5, row_cells z' 6, row_cells z' 7⟩
theorem ret_str {a b : ByteArray} (h : a = b) : Ending.returned (.string a) = .returned (.string b) := by rw [h]
end Go.Proofs.YtgbdlgogccgciaaGreatDoor
namespace Go.Proofs.YtgbdlgogccgciaaGreatDoor
open Go.RowKit
attribute [local go_sem ↓] Go.wp_at_zero Go.wp_at_succ

/- THE SPECIFICATION's SMALL READERS. -/
theorem atL_byte {t : ByteArray} {k : Nat} (h : k < t.size) : atL t.data.toList k = (t[k].toNat : Int) := by
  rw [atL_get (by rw [Array.length_toList]; exact h)]
  rfl
theorem atL_past {t : ByteArray} {k : Nat} (h : ¬k < t.size) : atL t.data.toList k = -1 := atL_none (by rw [Array.length_toList]; show t.size ≤ k; omega)
set_option maxHeartbeats 400000 in
theorem l1AtL_ok (t : ByteArray) (k : Nat) (ci : Int) (w : World) (hci : ci = k) :
    Calls Tryz.prog 25 #[.string t, .int .i64 ci] w fun e w' => e = .returned (.int .i64 (atL t.data.toList k)) ∧ w' = w := by
  subst hci
  have h0 : (0 : Int) ≤ (k : Int) := by omega
  by_cases hk : k < t.size
  · rw [atL_byte hk]
    have h1 : (k : Int) < (t.size : Int) := by omega
    have hc : t[k].toNat < 256 := t[k].toNat_lt
    go_enter Tryz.func25, Tryz.ntmps25
    go_wp2
    go_ret
    exact ⟨rfl, rfl⟩
  · rw [atL_past hk]
    have h1 : (t.size : Int) ≤ (k : Int) := by omega
    go_enter Tryz.func25, Tryz.ntmps25
    go_wp2
    go_ret
    exact ⟨rfl, rfl⟩

def specials : List UInt8 := [92, 94, 46, 91, 93, 36, 40, 41, 124, 42, 43, 63, 123, 125]
theorem specialB_eq (c : Int) : specialB c = specials.any fun x => decide ((x.toNat : Int) = c) := by
  unfold specialB specials
  rfl
theorem any_take {l : List UInt8} {p : UInt8 → Bool} {j : Nat} (hj : j < l.length) (h : (l.take j).any p = false) : (l.take (j + 1)).any p = p l[j] := by
  rw [List.take_succ_eq_append_getElem hj, List.any_append, h]
  simp
set_option maxRecDepth 100000 in
set_option maxHeartbeats 1000000 in
theorem l1IsSpecial_ok (c : Int) (w : World) :
    Calls Tryz.prog 26 #[.int .i64 c] w fun e w' => e = .returned (.bool (specialB c)) ∧ w' = w := by
  rw [specialB_eq]
  go_enter Tryz.func26, Tryz.ntmps26
  go_wp2
  obtain ⟨S, hS⟩ : ∃ S : ByteArray, S = ⟨#[92, 94, 46, 91, 93, 36, 40, 41, 124, 42, 43, 63, 123, 125]⟩ := ⟨_, rfl⟩
  rw [← hS]
  have hsz : S.size = 14 := by rw [hS]; rfl
  have hl : specials = S.data.toList := by rw [hS]; rfl
  have HL : Hid _ := hl
  clear hS hl
  go_loop [4] (fun i => ∃ j : Nat, j ≤ 14 ∧ i = .int .i64 j ∧ Hid ((specials.take j).any (fun x => decide ((x.toNat : Int) = c)) = false)) (fun i => 14 - (intOf i).toNat)
  case atStart => exact ⟨0, by omega, rfl, rfl⟩
  case round =>
    obtain ⟨j, hj, rfl, hn⟩ := hrel
    by_cases hlt : j < 14
    · have hjs : j < S.size := by omega
      have hs2 : ((14 : Int)) = (S.size : Int) := by omega
      have Hnx : Hid ((specials.take (j + 1)).any (fun x => decide ((x.toNat : Int) = c)) = decide ((S[j].toNat : Int) = c)) := by
        have hj2 : j < S.data.toList.length := by rw [Array.length_toList]; exact hjs
        have := hn.out
        show _ = _
        rw [HL.out] at this ⊢
        rw [any_take hj2 this]
        rfl
      have hc : S[j].toNat < 256 := S[j].toNat_lt
      have h1 : (j : Int) < (S.size : Int) := by omega
      clear hs2
      by_cases he : (S[j].toNat : Int) = c
      · have Hall : Hid (specials.any (fun x => decide ((x.toNat : Int) = c)) = true) := by
          show _ = _
          have h2 := Hnx.out
          rw [decide_eq_true he] at h2
          rw [List.any_eq_true] at h2 ⊢
          obtain ⟨x, hx, hp⟩ := h2
          exact ⟨x, List.mem_of_mem_take hx, hp⟩
        go_wp2
        go_ret
        exact ⟨ret_bool Hall.out.symm, rfl⟩
      · go_wp2
        go_round
        case rel => exact ⟨j + 1, by omega, by go_num, by show _ = _; rw [Hnx.out]; simp [he]⟩
        case measure => simp [intOf]; omega
    · have hj14 : j = 14 := by omega
      subst hj14
      have Hall : Hid (specials.any (fun x => decide ((x.toNat : Int) = c)) = false) := hn.out
      go_wp2
      go_ret
      exact ⟨ret_bool Hall.out.symm, rfl⟩
end Go.Proofs.YtgbdlgogccgciaaGreatDoor
namespace Go.Proofs.YtgbdlgogccgciaaGreatDoor
open Go.RowKit
attribute [local go_sem ↓] Go.wp_at_zero Go.wp_at_succ

/- NUMBERS AND NAMED CLASSES, THE SPECIFICATION's SIDE. -/
def optI (o : Option Nat) : Int := match o with | some n => (n : Int) | none => -1
theorem valF_snoc (l : List UInt8) (x : UInt8) : valF (l ++ [x]) = valF l * 10 + (x.toNat - 48) := by simp [valF]
theorem digB_btw (x : UInt8) : digB x = btw x.toNat 48 57 := by
  unfold digB btw
  rw [decide_eq_decide]
  omega
theorem valF_bd : ∀ (n : Nat) (l : List UInt8), l.length = n → l.all digB = true → valF l < 10 ^ n
  | 0, l, h, _ => by have : l = [] := List.eq_nil_of_length_eq_zero h; subst this; decide
  | n + 1, l, h, ha => by
    have hne : l ≠ [] := fun e => by subst e; simp at h
    have e := List.dropLast_concat_getLast hne
    rw [← e, List.all_append] at ha
    have ha' := Bool.and_eq_true_iff.1 ha
    have ih := valF_bd n l.dropLast (by simp [h]) ha'.1
    have hd : digB (l.getLast hne) = true := by simpa using ha'.2
    unfold digB at hd
    have hd' := of_decide_eq_true hd
    rw [← e, valF_snoc, Nat.pow_succ]
    omega
theorem take_get {t : ByteArray} {j : Nat} (hj : j < t.size) : t.data.toList.take (j + 1) = t.data.toList.take j ++ [t[j]] := by
  rw [List.take_succ_eq_append_getElem (by rw [Array.length_toList]; exact hj)]
  rfl
set_option maxRecDepth 100000 in
set_option maxHeartbeats 1000000 in
theorem l1Count_ok (t : ByteArray) (w : World) :
    Calls Tryz.prog 42 #[.string t] w fun e w' => e = .returned (.int .i64 (optI (countF t.data.toList))) ∧ w' = w := by
  have hlen : t.data.toList.length = t.size := Array.length_toList
  by_cases h1 : t.size < 1
  · have hs : (t.size : Int) < 1 := by omega
    have HR : Hid (optI (countF t.data.toList) = -1) := by show _ = _; unfold countF; rw [if_neg (by omega)]; rfl
    clear hlen
    go_enter Tryz.func42, Tryz.ntmps42
    go_wp2
    go_ret
    exact ⟨ret_int HR.out.symm, rfl⟩
  by_cases h3 : 3 < t.size
  · have hs : ¬(t.size : Int) < 1 := by omega
    have hs2 : (3 : Int) < (t.size : Int) := by omega
    have HR : Hid (optI (countF t.data.toList) = -1) := by show _ = _; unfold countF; rw [if_neg (by omega)]; rfl
    clear hlen
    go_enter Tryz.func42, Tryz.ntmps42
    go_wp2
    go_ret
    exact ⟨ret_int HR.out.symm, rfl⟩
  have hs : ¬(t.size : Int) < 1 := by omega
  have hs2 : ¬(3 : Int) < (t.size : Int) := by omega
  have Hlen : Hid _ := hlen
  clear hlen
  go_enter Tryz.func42, Tryz.ntmps42
  go_wp2
  go_loop [3, 4] (fun n i => ∃ j m : Nat, j ≤ t.size ∧ i = .int .i64 j ∧ n = .int .i64 (m : Int) ∧ m < 1000 ∧ Hid (m = valF (t.data.toList.take j) ∧ (t.data.toList.take j).all digB = true)) (fun _ i => t.size - (intOf i).toNat)
  case atStart => exact ⟨0, 0, by omega, rfl, rfl, by omega, rfl, rfl⟩
  case round =>
    obtain ⟨j, m, hj, rfl, rfl, hm, hv⟩ := hrel
    by_cases hlt : j < t.size
    · have hc : t[j].toNat < 256 := t[j].toNat_lt
      have h1' : (j : Int) < (t.size : Int) := by omega
      cases hd : digB t[j]
      · have HR : Hid (optI (countF t.data.toList) = -1) := by
          show _ = _
          unfold countF
          rw [if_neg]
          · rfl
          · rintro ⟨_, _, ha, _⟩
            rw [List.all_eq_true] at ha
            have hj2 : j < t.data.toList.length := by rw [Array.length_toList]; exact hlt
            have := ha t[j] (List.getElem_mem hj2)
            rw [hd] at this
            cases this
        rw [digB_btw] at hd
        go_wp2_with fail
        refine (between_ok _ _ _ _).mono ?_
        rintro e w' ⟨rfl, rfl⟩
        rw [hd]
        go_wp2
        go_ret
        exact ⟨ret_int HR.out.symm, rfl⟩
      · have hd2 : 48 ≤ t[j].toNat ∧ t[j].toNat ≤ 57 := by unfold digB at hd; exact of_decide_eq_true hd
        have hb := valF_bd (j + 1) (t.data.toList.take (j + 1)) (by rw [List.length_take, Hlen.out]; omega) (by rw [take_get hlt, List.all_append, hv.out.2]; simpa using hd)
        rw [take_get hlt, valF_snoc, ← hv.out.1] at hb
        have Hn : Hid (m * 10 + (t[j].toNat - 48) = valF (t.data.toList.take (j + 1)) ∧ (t.data.toList.take (j + 1)).all digB = true) := by
          refine ⟨?_, ?_⟩
          · rw [take_get hlt, valF_snoc, ← hv.out.1]
          · rw [take_get hlt, List.all_append, hv.out.2]; simpa using hd
        have hb3 : m * 10 + (t[j].toNat - 48) < 1000 := by
          have : (10 : Nat) ^ (j + 1) ≤ 10 ^ 3 := Nat.pow_le_pow_right (by omega) (by omega)
          omega
        rw [digB_btw] at hd
        clear hb
        go_wp2_with fail
        refine (between_ok _ _ _ _).mono ?_
        rintro e w' ⟨rfl, rfl⟩
        rw [hd]
        go_wp2
        go_round
        case rel => exact ⟨j + 1, m * 10 + (t[j].toNat - 48), by omega, by go_num, by go_num, hb3, Hn⟩
        case measure => simp [intOf]; omega
    · have hjj : j = t.size := by omega
      have HR : Hid (optI (countF t.data.toList) = if 255 < m then -1 else (m : Int)) := by
        have e : t.data.toList.take j = t.data.toList := List.take_of_length_le (by rw [Hlen.out]; omega)
        have h := hv.out
        rw [e] at h
        show _ = _
        unfold countF
        rw [← h.1, Hlen.out]
        by_cases hm2 : 255 < m
        · rw [if_neg (by omega), if_pos hm2]; rfl
        · rw [if_pos ⟨by omega, by omega, h.2, by omega⟩, if_neg hm2]; rfl
      by_cases hm2 : 255 < m
      · have hm3 : (255 : Int) < (m : Int) := by omega
        have HR2 : Hid (optI (countF t.data.toList) = -1) := by show _ = _; rw [HR.out, if_pos hm2]
        go_wp2
        go_ret
        exact ⟨ret_int HR2.out.symm, rfl⟩
      · have hm3 : ¬(255 : Int) < (m : Int) := by omega
        have HR2 : Hid (optI (countF t.data.toList) = (m : Int)) := by show _ = _; rw [HR.out, if_neg hm2]
        go_wp2
        go_ret
        exact ⟨ret_int HR2.out.symm, rfl⟩
end Go.Proofs.YtgbdlgogccgciaaGreatDoor
