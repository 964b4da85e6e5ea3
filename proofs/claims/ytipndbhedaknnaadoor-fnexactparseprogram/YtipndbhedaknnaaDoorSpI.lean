import Derived.Test.YtipndbhedaknnaaDoorTxt
import Derived.Lib.Bytealg
import Derived.BigCall
import Derived.BigGuard
namespace Go.Proofs.YtipndbhedaknnaaDoor
open Go.RowKit
attribute [local go_sem ↓] Go.wp_at_zero Go.wp_at_succ

/- THE LIBRARY: a byte sought in a string. -/
set_option maxRecDepth 100000 in
set_option maxHeartbeats 1000000 in
theorem liteIndexByte_ok (s : ByteArray) (c : Int) (w : World) :
    Calls Tryd.prog 65 #[.string s, .int .u8 c] w fun e w' => e = .returned (.int .i64 (Lib.indexByte s.data.toList c.toNat.toUInt8)) ∧ w' = w := by
  go_enter Tryd.func65, Tryd.ntmps65
  go_wp2
  rw [run_callFunc_extern Tryd.func71 (by kernel_rfl) (by kernel_rfl) (by kernel_rfl) (e := Extern.BytealgIndexByte.indexByte) (by kernel_rfl), Lib.run_indexByteString]
  simp only [Result.andThen]
  rw [Oper.upon_value]
  go_wp2
  go_ret
  exact ⟨rfl, rfl⟩
set_option maxRecDepth 100000 in
set_option maxHeartbeats 1000000 in
theorem indexByte_ok (s : ByteArray) (c : Int) (w : World) :
    Calls Tryd.prog 57 #[.string s, .int .u8 c] w fun e w' => e = .returned (.int .i64 (Lib.indexByte s.data.toList c.toNat.toUInt8)) ∧ w' = w := by
  go_enter Tryd.func57, Tryd.ntmps57
  go_wp2_with (go_at_call 65; refine (liteIndexByte_ok _ _ _).mono ?_; rintro e w' ⟨rfl, rfl⟩)
  go_ret
  exact ⟨rfl, rfl⟩
/-- Where the first byte c stands: -1 where none is. -/
def posF (c : UInt8) (l : List UInt8) : Int := Lib.indexByte l c
theorem posF_head (c : UInt8) (l : List UInt8) : posF c (c :: l) = 0 := by simp [posF, Lib.indexByte]
theorem posF_nil (c : UInt8) : posF c [] = -1 := rfl
theorem posF_step (c x : UInt8) (l : List UInt8) (h : ¬x = c) : posF c (x :: l) = if posF c l = -1 then -1 else posF c l + 1 := by
  unfold posF
  rw [Lib.indexByte]
  simp [h]
set_option maxRecDepth 100000 in
set_option maxHeartbeats 1000000 in
theorem liteIndex_ok (s : ByteArray) (c : UInt8) (w : World) :
    Calls Tryd.prog 68 #[.string s, .string ⟨#[c]⟩] w fun e w' => e = .returned (.int .i64 (posF c s.data.toList)) ∧ w' = w := by
  have he : (c.toNat : Int).toNat.toUInt8 = c := by simp
  go_enter Tryd.func68, Tryd.ntmps68
  go_wp2_with (go_at_call 65; refine (liteIndexByte_ok _ _ _).mono ?_; rintro e w' ⟨rfl, rfl⟩)
  · have h : ([c] == s.toList) = true := by assumption
    have e : s.data.toList = [c] := by rw [← Lib.toList_data]; exact (beq_iff_eq.1 h).symm
    go_ret
    rw [e, posF_head]
    exact ⟨rfl, rfl⟩
  · go_ret
    exact ⟨rfl, rfl⟩
set_option maxRecDepth 100000 in
set_option maxHeartbeats 1000000 in
theorem index_ok (s : ByteArray) (c : UInt8) (w : World) :
    Calls Tryd.prog 61 #[.string s, .string ⟨#[c]⟩] w fun e w' => e = .returned (.int .i64 (posF c s.data.toList)) ∧ w' = w := by
  go_enter Tryd.func61, Tryd.ntmps61
  go_wp2_with (go_at_call 68; refine (liteIndex_ok _ _ _).mono ?_; rintro e w' ⟨rfl, rfl⟩)
  go_ret
  exact ⟨rfl, rfl⟩
set_option maxRecDepth 100000 in
set_option maxHeartbeats 1000000 in
theorem count_ok (s : ByteArray) (c : UInt8) (w : World) :
    Calls Tryd.prog 63 #[.string s, .string ⟨#[c]⟩] w fun e w' => e = .returned (.int .i64 (s.data.toList.count c)) ∧ w' = w := by
  have he : (c.toNat : Int).toNat.toUInt8 = c := by simp
  go_enter Tryd.func63, Tryd.ntmps63
  go_wp2
  rw [run_callFunc_extern Tryd.func70 (by kernel_rfl) (by kernel_rfl) (by kernel_rfl) (e := Extern.BytealgCount.count) (by kernel_rfl), Lib.run_countString]
  simp only [Result.andThen]
  rw [Oper.upon_value]
  go_wp2
  go_ret
  exact ⟨rfl, rfl⟩

/- What the places say of the pieces. -/
theorem cut_none (c : UInt8) : ∀ l, posF c l = -1 → cutF c l = [l] ∧ l.count c = 0
  | [], _ => by simp [cutF]
  | x :: l, h => by
    by_cases hx : x = c
    · subst hx; rw [posF_head] at h; omega
    · rw [posF_step c x l hx] at h
      have h' : posF c l = -1 := by
        have := Lib.indexByte_ge l c
        unfold posF at h ⊢
        split at h <;> omega
      obtain ⟨e1, e2⟩ := cut_none c l h'
      rw [cutF, if_neg hx, e1]
      simp [hx, e2]
theorem cut_some (c : UInt8) : ∀ l, ¬posF c l = -1 → ∃ q r : List UInt8, l = q ++ c :: r ∧ posF c l = q.length ∧ cutF c l = q :: cutF c r ∧ l.count c = r.count c + 1
  | [], h => absurd (posF_nil c) h
  | x :: l, h => by
    by_cases hx : x = c
    · subst hx
      exact ⟨[], l, rfl, by rw [posF_head]; rfl, by rw [cutF, if_pos rfl], by simp⟩
    · rw [posF_step c x l hx] at h ⊢
      split at h
      · exact absurd rfl h
      · rename_i h0
        obtain ⟨q, r, e, h1, h2, h3⟩ := cut_some c l h0
        refine ⟨x :: q, r, by rw [e]; rfl, by rw [if_neg h0, h1]; simp, ?_, by rw [List.count_cons_of_ne (by simpa using hx), h3]⟩
        rw [cutF, if_neg hx, h2]
theorem cut_len (c : UInt8) : ∀ l : List UInt8, (cutF c l).length = l.count c + 1
  | [] => by simp [cutF]
  | x :: l => by
    by_cases hx : x = c
    · subst hx; rw [cutF, if_pos rfl]; simp [cut_len x l]
    · rw [cutF, if_neg hx, List.count_cons_of_ne (by simpa using hx), ← cut_len c l]
      cases h : cutF c l with
      | nil => exact absurd h (cutF_ne c l)
      | cons a b => rfl
end Go.Proofs.YtipndbhedaknnaaDoor
