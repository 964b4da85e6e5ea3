import Derived.Test.YtipndbhedaknnaaPairs
namespace Go.Proofs.Ytipndbhedaknnaa
open Go.RowKit
attribute [local go_sem ↓] Go.wp_at_zero Go.wp_at_succ

/- FILLING A TEMPLATE. -/
def spanOKB (n : Nat) (sp : List (Int × Int)) (g : Nat) : Bool := decide (g < sp.length ∧ 0 ≤ (sp.getD g (0, 0)).1 ∧ (sp.getD g (0, 0)).1 ≤ (sp.getD g (0, 0)).2 ∧ (sp.getD g (0, 0)).2 ≤ n)
def spanL (text : List UInt8) (sp : List (Int × Int)) (g : Nat) : List UInt8 :=
  if spanOKB text.length sp g then (text.drop (sp.getD g (0, 0)).1.toNat).take ((sp.getD g (0, 0)).2.toNat - (sp.getD g (0, 0)).1.toNat) else []
def fillL (text : List UInt8) (sp : List (Int × Int)) : List UInt8 → List UInt8
  | [] => []
  | [c] => [c]
  | c :: d :: rest =>
    if c.toNat = 92 ∧ d.toNat = 92 then c :: fillL text sp rest
    else if c.toNat = 92 ∧ 48 ≤ d.toNat ∧ d.toNat ≤ 57 then spanL text sp (d.toNat - 48) ++ fillL text sp rest
    else c :: fillL text sp (d :: rest)
/-- What Fill answers. -/
def fillF (tm tx : ByteArray) (sp : List (Int × Int)) : ByteArray := if 1000 < tm.size ∨ 4096 < tx.size then ⟨#[]⟩ else ⟨((fillL tx.data.toList sp tm.data.toList).take 1000).toArray⟩

theorem drop_at (t : ByteArray) (k : Nat) (h : k < t.size) : t.data.toList.drop k = t[k] :: t.data.toList.drop (k + 1) := by
  rw [List.drop_eq_getElem_cons (by simpa using h)]; rfl
theorem fill_one (tm : ByteArray) (text : List UInt8) (sp : List (Int × Int)) (k : Nat) (h : k < tm.size) (hc : ¬tm[k].toNat = 92 ∨ ¬k + 1 < tm.size ∨ ∃ h1 : k + 1 < tm.size, ¬tm[k + 1].toNat = 92 ∧ ¬(48 ≤ tm[k + 1].toNat ∧ tm[k + 1].toNat ≤ 57)) :
    fillL text sp (tm.data.toList.drop k) = tm[k] :: fillL text sp (tm.data.toList.drop (k + 1)) := by
  rw [drop_at tm k h]
  by_cases h1 : k + 1 < tm.size
  · rw [drop_at tm (k + 1) h1, fillL]
    rcases hc with hc | hc | ⟨_, hc, hd⟩
    · rw [if_neg (fun x => hc x.1), if_neg (fun x => hc x.1)]
    · exact absurd h1 hc
    · rw [if_neg (fun x => hc x.2), if_neg (fun x => hd x.2)]
  · rw [List.drop_eq_nil_of_le (by simp; omega)]; rfl
theorem fill_bs (tm : ByteArray) (text : List UInt8) (sp : List (Int × Int)) (k : Nat) (h : k + 1 < tm.size) (hc : tm[k].toNat = 92) (hd : tm[k + 1].toNat = 92) :
    fillL text sp (tm.data.toList.drop k) = tm[k] :: fillL text sp (tm.data.toList.drop (k + 2)) := by
  rw [drop_at tm k (by omega), drop_at tm (k + 1) h, fillL, if_pos ⟨hc, hd⟩]
theorem fill_dg (tm : ByteArray) (text : List UInt8) (sp : List (Int × Int)) (k : Nat) (h : k + 1 < tm.size) (hc : tm[k].toNat = 92) (h1 : 48 ≤ tm[k + 1].toNat) (h2 : tm[k + 1].toNat ≤ 57) :
    fillL text sp (tm.data.toList.drop k) = spanL text sp (tm[k + 1].toNat - 48) ++ fillL text sp (tm.data.toList.drop (k + 2)) := by
  rw [drop_at tm k (by omega), drop_at tm (k + 1) h, fillL, if_neg (by omega), if_pos ⟨hc, h1, h2⟩]
theorem ext_list (t : ByteArray) (a b : Nat) : (t.extract a b).data.toList = (t.data.toList.drop a).take (b - a) := by
  simp [ByteArray.data_extract, List.extract]
theorem app_list (a b : ByteArray) : (a ++ b).data.toList = a.data.toList ++ b.data.toList := by simp [ByteArray.data_append]

set_option maxHeartbeats 400000 in
theorem l1At_in (t : ByteArray) (k : Nat) (ci : Int) (w : World) (hci : ci = k) (hk : k < t.size) :
    Calls Try.prog 9 #[.string t, .int .i64 ci] w fun e w' => e = .returned (.int .i64 (t[k].toNat : Int)) ∧ w' = w := by
  subst hci
  have h0 : (0 : Int) ≤ (k : Int) := by omega
  have h1 : (k : Int) < (t.size : Int) := by omega
  have hc : t[k].toNat < 256 := t[k].toNat_lt
  go_enter Try.func9, Try.ntmps9
  go_wp2
  go_ret
  exact ⟨rfl, rfl⟩
set_option maxHeartbeats 400000 in
theorem l1At_out (t : ByteArray) (k : Nat) (ci : Int) (w : World) (hci : ci = k) (hk : ¬k < t.size) :
    Calls Try.prog 9 #[.string t, .int .i64 ci] w fun e w' => e = .returned (.int .i64 (-1)) ∧ w' = w := by
  subst hci
  have h0 : (0 : Int) ≤ (k : Int) := by omega
  have h1 : (t.size : Int) ≤ (k : Int) := by omega
  go_enter Try.func9, Try.ntmps9
  go_wp2
  go_ret
  exact ⟨rfl, rfl⟩
end Go.Proofs.Ytipndbhedaknnaa
