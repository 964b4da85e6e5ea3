import Derived.Test.YtplhghhfdabccaaDoorPackT
import Derived.Test.YtplhghhfdabccaaDoorPackA
namespace Go.Proofs.YtplhghhfdabccaaDoor
open Go.RowKit
attribute [local go_sem ↓] Go.wp_at_zero Go.wp_at_succ

/- THE FIRST FIT. -/
def fitsT (T : Nat → Nat) (odd : List Nat) (j : Nat) : Bool := odd.all fun c => !bitAt T (j + c)
/-- What blocks the 64 places from base on, by the classes so far. -/
structure Blk (T : Nat → Nat) (base : Nat) (cs : List Nat) (B : Nat) : Prop where
  lt : B < 18446744073709551616
  bit : ∀ i, i < 64 → B.testBit i = cs.any fun c => bitAt T (base + c + i)
theorem Blk.nil (T : Nat → Nat) (base : Nat) : Blk T base [] 0 := ⟨by omega, fun i _ => by simp⟩
theorem Blk.snoc {T : Nat → Nat} {base : Nat} {cs : List Nat} {B : Nat} (h : Blk T base cs B) (hT : ∀ i, T i < 18446744073709551616) (c : Nat) : Blk T base (cs ++ [c]) (B ||| winN T (base + c)) :=
  ⟨Nat.or_lt_two_pow (n := 64) h.lt (winN_lt T hT _), fun i hi => by rw [Nat.testBit_or, h.bit i hi, winN_bit T hT _ _ hi]; simp⟩
theorem Blk.fits {T : Nat → Nat} {base : Nat} {cs : List Nat} {B : Nat} (h : Blk T base cs B) {i : Nat} (hi : i < 64) : fitsT T cs (base + i) = !B.testBit i := by
  rw [h.bit i hi]
  unfold fitsT
  rw [List.not_any_eq_all_not]
  congr 1
  funext c
  rw [show base + i + c = base + c + i by omega]
theorem notN_bit {B i : Nat} (h : B < 18446744073709551616) (hi : i < 64) : (18446744073709551615 - B).testBit i = !B.testBit i := by
  have e : 18446744073709551615 - B = 2 ^ 64 - (B + 1) := by omega
  rw [e, Nat.testBit_two_pow_sub_succ h]
  simp [hi]
/-- The lowest free place of the 64. -/
theorem Blk.free {T : Nat → Nat} {base : Nat} {cs : List Nat} {B : Nat} (h : Blk T base cs B) (h0 : 0 < 18446744073709551615 - B) : ∃ k t, 18446744073709551615 - B = 2 ^ k * (2 * t + 1) ∧ k < 64 ∧ fitsT T cs (base + k) = true ∧ ∀ j, j < k → fitsT T cs (base + j) = false := by
  obtain ⟨k, t, hk⟩ := odd_part _ _ (Nat.le_refl _) h0
  have L : Low (18446744073709551615 - B) k := by rw [hk]; exact low_of k t
  have hk64 : k < 64 := by
    rcases Nat.lt_or_ge k 64 with h1 | h1
    · exact h1
    · have h2 : 2 ^ 64 ≤ 2 ^ k := Nat.pow_le_pow_right (by omega) h1
      have h3 : 2 ^ k ≤ 18446744073709551615 - B := by rw [hk]; exact Nat.le_mul_of_pos_right _ (by omega)
      omega
  refine ⟨k, t, hk, hk64, ?_, fun j hj => ?_⟩
  · rw [h.fits hk64, ← notN_bit h.lt hk64]; exact L.bit
  · rw [h.fits (by omega), ← notN_bit h.lt (by omega)]; exact L.low j hj
theorem Blk.full {T : Nat → Nat} {base : Nat} {cs : List Nat} {B : Nat} (h : Blk T base cs B) (h0 : 18446744073709551615 - B = 0) : ∀ j, j < 64 → fitsT T cs (base + j) = false := fun j hj => by
  rw [h.fits hj, ← notN_bit h.lt hj, h0]; simp

theorem xor_max (B : Nat) (hB : B < 18446744073709551616) : bits BinOp.xor IntKind.u64 IntKind.u64.max (B : Int) = ((18446744073709551615 - B : Nat) : Int) := by
  have h1 : (BitVec.ofInt 64 IntKind.u64.max ^^^ BitVec.ofInt 64 (B : Int)).toNat = 18446744073709551615 - B := by
    rw [show BitVec.ofInt 64 IntKind.u64.max = BitVec.allOnes 64 by decide, BitVec.allOnes_xor, BitVec.ofInt_natCast, BitVec.toNat_not, BitVec.toNat_ofNat, Nat.mod_eq_of_lt (by omega)]
  show IntKind.u64.wrap ((BitVec.ofInt 64 IntKind.u64.max ^^^ BitVec.ofInt 64 (B : Int)).toNat : Int) = _
  rw [h1]
  simp [IntKind.wrap, IntKind.bits, IntKind.signed]
  omega
set_option maxRecDepth 100000 in
set_option maxHeartbeats 2000000 in
theorem firstFit_ok {lo : Nat} (p g cap : Nat) (T : Nat → Nat) (u1 u2 v : Value) (odd : List Nat) (len : Nat) (w : World) (hp : w.heap[p]? = some (.cells #[.slice (some ⟨g, 0, none⟩) 943 cap, u1, u2] 50 (0, 0))) (hg : w.heap[g]? = some (.cells (wdRow 943 T) 56 (0, 0)))
    (hs : IntsAt lo w v (odd.map fun c : Nat => (c : Int))) (h0 : 0 < odd.length) (h1 : odd.length ≤ 256) (hT : Hid (∀ i, T i < 18446744073709551616)) (hc : Hid (∀ c ∈ odd, c < 256)) (hlen : len ≤ 60000) (hF : Hid (∀ s, len ≤ s → bitAt T s = false)) (hB : Hid (Bruijn w)) :
    Calls Tryd.prog 31 #[.pointer (some ⟨p, 0, none⟩), v] w fun e w' => (∃ k : Nat, e = .returned (.int .i64 (k : Int)) ∧ k ≤ 60095 ∧ fitsT T odd k = true ∧ ∀ j, j < k → fitsT T odd j = false) ∧ Below w.heap.size w w' := by
  obtain ⟨ao, rcap, rfl, hm, hcl⟩ := hs
  obtain ⟨b, o, rfl, _, hbl, hcell⟩ := hcl (by simpa using h0)
  rw [List.length_map] at *
  have Hc : Hid (∀ i, i < odd.length → ∃ c : Nat, odd[i]? = some c ∧ c < 256 ∧ w.cell? ⟨b, o + i, none⟩ = some (.int .i64 (c : Int))) := fun i hi => by
    refine ⟨odd[i], by simp, hc.out _ (List.getElem_mem _), ?_⟩
    rw [hcell i hi]
    simp [List.getD, hi]
  clear hcell hcl hc
  have hpw := fun n s (hs : s < 60288) => window_ok p g cap T u1 u2 s (w.drewN n) (by simpa using hp) (by simpa using hg) hs hT
  have Hp : Hid (∀ (n s : Nat), s < 60288 → Calls Tryd.prog 33 #[.pointer (some ⟨p, 0, none⟩), .int .i64 (s : Int)] (w.drewN n) fun e w' => e = .returned (.int .u64 (winN T s : Int)) ∧ ∃ m, w' = (w.drewN n).drewN m) := hpw
  clear hpw hp hg
  go_enter Tryd.func31, Tryd.ntmps31
  go_wp2
  go_loopw [5] (fun bv wr => ∃ (r n : Nat), bv = .int .i64 ((64 * r : Nat) : Int) ∧ r ≤ 938 ∧ wr = w.drewN n ∧ Hid (∀ j, j < 64 * r → fitsT T odd j = false))
    (fun bv _ => 60032 - (intOf bv).toNat)
  case atStart => exact ⟨0, 0, rfl, by omega, rfl, fun j hj => by omega⟩
  case round =>
    obtain ⟨r, n, rfl, hr, rfl, HN⟩ := hrel
    generalize hba : 64 * r = base at *
    have Hba : Hid (64 * r = base) := hba
    have hba2 : base ≤ 60032 := by omega
    clear hba
    go_wp2
    go_loopw [6, 14] (fun kv i wr => ∃ (m B n2 : Nat), m ≤ odd.length ∧ i = .int .i64 m ∧ kv = .int .u64 (B : Int) ∧ wr = w.drewN n2 ∧ Hid (Blk T base (odd.take m) B))
      (fun _ i _ => odd.length - (intOf i).toNat)
    case atStart => exact ⟨0, 0, n, by omega, rfl, rfl, rfl, Blk.nil _ _⟩
    case round =>
      obtain ⟨m, B, n2, hml, rfl, rfl, rfl, HB⟩ := hrel
      by_cases hlt : m < odd.length
      · obtain ⟨c, hc1, hc2, hc3⟩ := Hc.out m hlt
        have c0 : (w.drewN n2).cell? ⟨b, o + m, none⟩ = some (.int .i64 (c : Int)) := by simpa using hc3
        have cW := Hp.out n2 (base + c) (by omega)
        rw [Int.natCast_add] at cW
        have HB2 : Hid (Blk T base (odd.take (m + 1)) (B ||| winN T (base + c))) := by
          have e : odd.take (m + 1) = odd.take m ++ [c] := by
            have : odd[m] = c := by rw [List.getElem?_eq_getElem hlt] at hc1; exact Option.some.inj hc1
            rw [List.take_succ_eq_append_getElem hlt, this]
          show Blk _ _ _ _
          rw [e]
          exact HB.out.snoc hT.out c
        have HO : Hid (bits BinOp.or IntKind.u64 (B : Int) (winN T (base + c) : Int) = ((B ||| winN T (base + c) : Nat) : Int)) := or_u64 _ _ HB.out.lt (winN_lt T hT.out _)
        have hml' : (m : Int) < (odd.length : Int) := by omega
        clear hc1 hc3
        go_wp2_with fail
        refine cW.mono ?_
        rintro e wy ⟨rfl, m2, hw⟩
        rw [World.drewN_drewN] at hw
        subst hw
        clear cW
        go_wp2
        go_roundw
        case rel => exact ⟨m + 1, _, n2 + m2, by omega, by go_num, by rw [HO.out], rfl, HB2.out⟩
        case measure => simp [intOf]; omega
      · have hmm : m = odd.length := by omega
        have HBf : Hid (Blk T base odd B) := by
          have h := HB.out
          rw [hmm, List.take_length] at h
          exact h
        have hX := xor_max B HBf.out.lt
        have hsg : IntKind.u64.signed = false := rfl
        by_cases hz : 0 < 18446744073709551615 - B
        · obtain ⟨kk, tt, hk1, hk2, hk3, hk4⟩ := HBf.out.free hz
          have cT := tz_ok (18446744073709551615 - B) kk tt (w.drewN n2) hk1 (by omega) hz hk2 (fun i hi => by simpa using hB.out i hi)
          have HR : Hid (fitsT T odd (base + kk) = true ∧ ∀ j, j < base + kk → fitsT T odd j = false) := ⟨hk3, fun j hj => by
            by_cases hjb : j < base
            · exact HN.out j hjb
            · have := hk4 (j - base) (by omega)
              rw [show base + (j - base) = j by omega] at this
              exact this⟩
          have hne : (bits BinOp.xor IntKind.u64 IntKind.u64.max (B : Int) != 0) = true := by rw [hX, bne_iff_ne]; omega
          rw [← hX] at cT
          clear hmm HB HBf hk1 hk3 hk4 hz hX
          go_wp2_with fail
          refine cT.mono ?_
          rintro e wy ⟨rfl, rfl⟩
          go_wp2
          go_ret
          exact ⟨⟨base + kk, ret_int (by simp), by omega, HR.out.1, HR.out.2⟩, below_drewN (Below.refl _ _) _⟩
        · have hz0 : 18446744073709551615 - B = 0 := by omega
          have hfull := HBf.out.full hz0
          have HN2 : Hid (∀ j, j < 64 * (r + 1) → fitsT T odd j = false) := fun j hj => by
            have hb := Hba.out
            by_cases hjb : j < base
            · exact HN.out j hjb
            · have := hfull (j - base) (by omega)
              rw [show base + (j - base) = j by omega] at this
              exact this
          have HR : Hid (r < 938) := by
            show r < 938
            by_cases hge : r < 938
            · exact hge
            · have hb := Hba.out
              have h1 := hfull 0 (by omega)
              have h2 : fitsT T odd (base + 0) = true := by
                unfold fitsT
                rw [List.all_eq_true]
                intro c _
                rw [hF.out _ (by omega)]
                rfl
              rw [h2] at h1
              cases h1
          have hne : (bits BinOp.xor IntKind.u64 IntKind.u64.max (B : Int) != 0) = false := by rw [hX, hz0]; rfl
          clear hmm HB HBf hz hz0 hfull hX
          go_wp2
          exact ⟨⟨r + 1, n2, by have := Hba.out; go_num, by have := HR.out; omega, rfl, HN2.out⟩, by have := HR.out; have := Hba.out; simp [intOf]; omega⟩
end Go.Proofs.YtplhghhfdabccaaDoor
