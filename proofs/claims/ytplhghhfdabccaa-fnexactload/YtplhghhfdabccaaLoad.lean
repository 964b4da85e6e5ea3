import Derived.Test.YtplhghhfdabccaaFam
import Derived.Test.YtplhghhfdabccaaEnc
import Derived.Test.YtplhghhfdabccaaLook
namespace Go.Proofs.Ytplhghhfdabccaa
open Go.RowKit
attribute [local go_sem ↓] Go.wp_at_zero Go.wp_at_succ

/- NUMBERS OF AN IMAGE. -/
def byteN (s : ByteArray) (i : Nat) : Nat := (s.data.toList.getD i 0).toNat
theorem byteN_at {s : ByteArray} {i : Nat} (h : i < s.size) : s[i].toNat = byteN s i := by
  unfold byteN
  rw [List.getD_eq_getElem?_getD, List.getElem?_eq_getElem (by simpa using h)]
  rfl
theorem byteN_lt (s : ByteArray) (i : Nat) : byteN s i < 256 := UInt8.toNat_lt _
def numN (s : ByteArray) (i : Nat) : Nat := byteN s i * 256 + byteN s (i + 1)
theorem numN_le (s : ByteArray) (i : Nat) : numN s i ≤ 65535 := by
  have := byteN_lt s i; have := byteN_lt s (i + 1); unfold numN; omega
def optN (s : ByteArray) (i : Nat) : Int := if numN s i = 65535 then -1 else numN s i

set_option maxRecDepth 100000 in
set_option maxHeartbeats 400000 in
theorem l3Num_ok (s : ByteArray) (i : Nat) (ci : Int) (w : World) (hci : ci = i) (hi : i + 1 < s.size) (hs : s.size ≤ 1048576) :
    Calls Try.prog 77 #[.string s, .int .i64 ci] w fun e w' => e = .returned (.int .i64 (numN s i)) ∧ ∃ n, w' = w.drewN n := by
  subst hci
  have h0 : (0 : Int) ≤ (i : Int) := by omega
  have h1 : (i : Int) < (s.size : Int) := by omega
  have h2 : (0 : Int) ≤ (i : Int) + 1 := by omega
  have h3 : (i : Int) + 1 < (s.size : Int) := by omega
  have e1 : s[i].toNat = byteN s i := byteN_at (by omega)
  have e2 : s[i + 1].toNat = byteN s (i + 1) := byteN_at hi
  have b1 := byteN_lt s i; have b2 := byteN_lt s (i + 1)
  have HV : Hid (((numN s i : Nat) : Int) = (byteN s i : Int) * 256 + (byteN s (i + 1) : Int)) := by show _ = _; unfold numN; omega
  generalize byteN s i = x at *
  generalize byteN s (i + 1) = y at *
  go_enter Try.func77, Try.ntmps77
  go_wp2
  go_quiet (fail)
  go_wp2
  go_ret
  exact ⟨ret_int HV.out.symm, _, rfl⟩

set_option maxRecDepth 100000 in
set_option maxHeartbeats 400000 in
theorem l3Opt_ok (s : ByteArray) (i : Nat) (ci : Int) (w : World) (hci : ci = i) (hi : i + 1 < s.size) (hs : s.size ≤ 1048576) :
    Calls Try.prog 79 #[.string s, .int .i64 ci] w fun e w' => e = .returned (.int .i64 (optN s i)) ∧ ∃ n, w' = w.drewN n := by
  subst hci
  have hle := numN_le s i
  have HO : Hid (optN s i = if numN s i = 65535 then -1 else (numN s i : Int)) := rfl
  have HC := l3Num_ok s i i w rfl hi hs
  generalize numN s i = z at *
  generalize optN s i = q at *
  by_cases h : z = 65535
  · subst h
    have H : Hid (q = -1) := by show _ = _; rw [HO.out, if_pos rfl]
    clear HO
    go_enter Try.func79, Try.ntmps79
    go_wp2_with fail
    refine HC.mono ?_
    rintro e w1 ⟨rfl, n, rfl⟩
    go_wp2
    go_ret
    exact ⟨ret_int H.out.symm, _, rfl⟩
  · have H : Hid (q = z) := by show _ = _; rw [HO.out, if_neg h]
    have h' : ¬(z : Int) = 65535 := by omega
    clear HO h
    go_enter Try.func79, Try.ntmps79
    go_wp2_with fail
    refine HC.mono ?_
    rintro e w1 ⟨rfl, n, rfl⟩
    go_wp2
    go_ret
    exact ⟨ret_int H.out.symm, _, rfl⟩
end Go.Proofs.Ytplhghhfdabccaa
