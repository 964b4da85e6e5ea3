import Derived.Test.YtipndbhedaknnaaDoorWrd
import Derived.Test.YtipndbhedaknnaaDoorSpI
namespace Go.Proofs.YtipndbhedaknnaaDoor
open Go.RowKit
attribute [local go_sem ↓] Go.wp_at_zero Go.wp_at_succ

/- THE CODE's READING OF WORDS. -/
def plainB (c : Int) : Bool := decide (33 ≤ c ∧ c ≤ 126 ∧ ¬c = 37)
set_option maxHeartbeats 400000 in
theorem isPlain_ok (c : Int) (w : World) (h0 : 0 ≤ c) (hc : c < 256) (r : Bool) (hr : plainB c = r) :
    Calls Tryd.prog 56 #[.int .u8 c] w fun e w' => e = .returned (.bool r) ∧ w' = w := by
  subst hr
  by_cases h1 : 33 ≤ c
  case neg =>
    have hp : plainB c = false := by unfold plainB; simp only [decide_eq_false_iff_not]; omega
    rw [hp]
    go_enter Tryd.func56, Tryd.ntmps56
    go_wp2
    go_ret
    exact ⟨rfl, rfl⟩
  by_cases h2 : c ≤ 126
  case neg =>
    have hp : plainB c = false := by unfold plainB; simp only [decide_eq_false_iff_not]; omega
    rw [hp]
    go_enter Tryd.func56, Tryd.ntmps56
    go_wp2
    go_ret
    exact ⟨rfl, rfl⟩
  by_cases h3 : c = 37
  · have hp : plainB c = false := by unfold plainB; simp only [decide_eq_false_iff_not]; omega
    rw [hp]
    go_enter Tryd.func56, Tryd.ntmps56
    go_wp2
    go_ret
    exact ⟨rfl, rfl⟩
  · have hp : plainB c = true := by unfold plainB; simp only [decide_eq_true_eq]; omega
    have h4 : (c != 37) = true := by simpa using h3
    rw [hp]
    go_enter Tryd.func56, Tryd.ntmps56
    go_wp2
    go_ret
    exact ⟨rfl, rfl⟩

def hexDs : ByteArray := ⟨#[48, 49, 50, 51, 52, 53, 54, 55, 56, 57, 65, 66, 67, 68, 69, 70]⟩
theorem hex_all : (List.range 256).all (fun n => Lib.indexByte hexDs.data.toList (UInt8.ofNat n) == hexF (n : Int)) = true := by decide +kernel
theorem hex_index (c : UInt8) : Lib.indexByte hexDs.data.toList c = hexF c.toNat := by
  have h := List.all_eq_true.1 hex_all c.toNat (by simp; exact c.toNat_lt)
  have e : UInt8.ofNat c.toNat = c := by simp
  rw [e] at h
  exact beq_iff_eq.1 h
theorem hexIdx_ok (c : UInt8) (w : World) :
    Calls Tryd.prog 57 #[.string ⟨#[48, 49, 50, 51, 52, 53, 54, 55, 56, 57, 65, 66, 67, 68, 69, 70]⟩, .int .u8 c.toNat] w fun e w' => e = .returned (.int .i64 (hexF c.toNat)) ∧ w' = w := by
  have h := indexByte_ok hexDs c.toNat w
  have e : (c.toNat : Int).toNat.toUInt8 = c := by simp
  rw [e, hex_index] at h
  exact h

/-- A prefix of one byte cut off. -/
def cpF (c : UInt8) (s : ByteArray) : ByteArray × Bool := if atF s 0 = c.toNat then (s.extract 1 s.size, true) else (s, false)
theorem pre_one (s : ByteArray) (c : UInt8) (h : 0 < s.size) : ((s.extract 0 1).toList == [c]) = decide (atF s 0 = c.toNat) := by
  have e : (s.extract 0 1).toList = [s[0]] := by
    rw [Lib.toList_data, ext_list, List.drop_zero]
    have := drop_at s 0 h
    rw [List.drop_zero] at this
    rw [this]
    simp
  have e0 : atF s 0 = (s[0].toNat : Int) := by unfold atF; rw [dif_pos h]
  rw [e, e0]
  by_cases hc : s[0] = c
  · subst hc; simp
  · have : ¬(s[0].toNat : Int) = (c.toNat : Int) := fun x => hc (UInt8.toNat_inj.1 (by omega))
    simp [hc, this]
set_option maxRecDepth 100000 in
set_option maxHeartbeats 1000000 in
theorem hasPrefix_ok (s : ByteArray) (c : UInt8) (w : World) :
    Calls Tryd.prog 66 #[.string s, .string ⟨#[c]⟩] w fun e w' => e = .returned (.bool (decide (atF s 0 = c.toNat))) ∧ w' = w := by
  by_cases h : 1 ≤ (s.size : Int)
  · have H : Hid (((s.extract 0 1).toList == [c]) = decide (atF s 0 = c.toNat)) := pre_one s c (by omega)
    go_enter Tryd.func66, Tryd.ntmps66
    go_wp2
    go_ret
    exact ⟨ret_bool H.out, rfl⟩
  · have H : Hid (decide (atF s 0 = c.toNat) = false) := by
      show _ = _
      have e0 : atF s 0 = -1 := by unfold atF; rw [dif_neg (by omega)]
      rw [e0]
      simp only [decide_eq_false_iff_not]
      omega
    go_enter Tryd.func66, Tryd.ntmps66
    go_wp2
    go_ret
    exact ⟨ret_bool H.out.symm, rfl⟩
set_option maxRecDepth 100000 in
set_option maxHeartbeats 1000000 in
theorem liteCut_ok (s : ByteArray) (c : UInt8) (w : World) :
    Calls Tryd.prog 58 #[.string s, .string ⟨#[c]⟩] w fun e w' => e = .returned (.tuple #[.string (cpF c s).1, .bool (cpF c s).2]) ∧ w' = w := by
  have hp := hasPrefix_ok s c
  by_cases h : atF s 0 = c.toNat
  · have H : Hid (cpF c s = (s.extract 1 s.size, true)) := by show _ = _; unfold cpF; rw [if_pos h]
    have h1 : 1 ≤ (s.size : Int) := by
      apply Classical.byContradiction
      intro hn
      have e0 : atF s 0 = -1 := by unfold atF; rw [dif_neg (by omega)]
      omega
    rw [decide_eq_true h] at hp
    clear h
    go_enter Tryd.func58, Tryd.ntmps58
    go_wp2_with (go_at_call 66; refine (hp _).mono ?_; rintro e w' ⟨rfl, hw'⟩; subst w')
    go_ret2
    exact ⟨by rw [H.out]; rfl, rfl⟩
  · have H : Hid (cpF c s = (s, false)) := by show _ = _; unfold cpF; rw [if_neg h]
    rw [decide_eq_false h] at hp
    clear h
    go_enter Tryd.func58, Tryd.ntmps58
    go_wp2_with (go_at_call 66; refine (hp _).mono ?_; rintro e w' ⟨rfl, hw'⟩; subst w')
    go_ret2
    exact ⟨by rw [H.out]; rfl, rfl⟩
set_option maxRecDepth 100000 in
set_option maxHeartbeats 1000000 in
theorem cutPrefix_ok (s : ByteArray) (c : UInt8) (w : World) :
    Calls Tryd.prog 51 #[.string s, .string ⟨#[c]⟩] w fun e w' => e = .returned (.tuple #[.string (cpF c s).1, .bool (cpF c s).2]) ∧ w' = w := by
  go_enter Tryd.func51, Tryd.ntmps51
  go_wp2_with (go_at_call 58; refine (liteCut_ok _ _ _).mono ?_; rintro e w' ⟨rfl, rfl⟩)
  go_ret2
  exact ⟨rfl, rfl⟩
end Go.Proofs.YtipndbhedaknnaaDoor
