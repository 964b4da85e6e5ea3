import Derived.Test.YtipndbhedaknnaaDoorScrL
namespace Go.Proofs.YtipndbhedaknnaaDoor
open Go.RowKit
attribute [local go_sem ↓] Go.wp_at_zero Go.wp_at_succ

/- THE TEXTS OF MARKS. -/
def digF : Nat → Nat → List UInt8 → List UInt8
  | 0, _, out => out
  | n + 1, k, out => if k = 0 then out else digF n (k / 10) (UInt8.ofNat (48 + k % 10) :: out)
def markF (k : Nat) : List UInt8 := if k = 0 then [109, 48] else 109 :: digF k k []
theorem digF_more (k : Nat) : ∀ (n m : Nat) (out : List UInt8), k ≤ n → k ≤ m → digF n k out = digF m k out := by
  induction k using Nat.strongRecOn with
  | ind k ih =>
    intro n m out hn hm
    match n, m with
    | 0, 0 => rfl
    | 0, m + 1 => have : k = 0 := by omega
                  subst this; simp [digF]
    | n + 1, 0 => have : k = 0 := by omega
                  subst this; simp [digF]
    | n + 1, m + 1 =>
      unfold digF
      by_cases h0 : k = 0
      · rw [if_pos h0, if_pos h0]
      · rw [if_neg h0, if_neg h0]
        exact ih (k / 10) (by omega) n m _ (by omega) (by omega)
/-- Where the writing of a mark stands. -/
structure DigSt (k0 k : Nat) (out : List UInt8) : Prop where
  eq : digF k0 k0 [] = digF k k out
  le : out.length + k ≤ k0
theorem DigSt.start (k : Nat) : DigSt k k [] := ⟨rfl, by simp⟩
theorem DigSt.step {k0 k : Nat} {out : List UInt8} (h : DigSt k0 k out) (hk : 0 < k) : DigSt k0 (k / 10) (UInt8.ofNat (48 + k % 10) :: out) := by
  refine ⟨?_, by have := h.le; simp; omega⟩
  rw [h.eq]
  match k, hk with
  | k + 1, _ =>
    rw [digF, if_neg (by omega)]
    exact digF_more _ _ _ _ (by omega) (Nat.le_refl _)
theorem DigSt.full {k0 : Nat} {out : List UInt8} (h : DigSt k0 0 out) : digF k0 k0 [] = out := by rw [h.eq]; rfl
set_option maxRecDepth 100000 in
set_option maxHeartbeats 1000000 in
theorem markText_ok (k : Nat) (ki : Int) (w : World) (hki : ki = k) (hk : k ≤ 100000000) :
    Calls Tryd.prog 31 #[.int .i64 ki] w fun e w' => e = .returned (strV (markF k)) ∧ Below w.heap.size w w' := by
  subst hki
  by_cases h0 : k = 0
  · subst h0
    go_enter Tryd.func31, Tryd.ntmps31
    go_wp2
    go_ret
    exact ⟨rfl, Below.refl _ _⟩
  have hp : ¬(k : Int) ≤ 0 := by omega
  go_enter Tryd.func31, Tryd.ntmps31
  go_wp2
  go_loopw [0, 3] (fun kv ov wr => ∃ (j : Nat) (out : List UInt8), kv = .int .i64 j ∧ ov = .string ⟨out.toArray⟩ ∧ Hid (DigSt k j out) ∧ Below w.heap.size w wr)
    (fun kv _ _ => (intOf kv).toNat)
  case atStart => exact ⟨k, [], rfl, rfl, DigSt.start k, Below.refl _ _⟩
  case round =>
    obtain ⟨j, out, rfl, rfl, HS, hb⟩ := hrel
    have hle := HS.out.le
    obtain ⟨ob, hob⟩ : ∃ ob : ByteArray, ob = ⟨out.toArray⟩ := ⟨_, rfl⟩
    have hos : ob.size ≤ 100000000 := by rw [hob]; show out.toArray.size ≤ _; simp; omega
    by_cases hj : 0 < j
    · have HN := HS.out.step hj
      obtain ⟨b, hbe⟩ : ∃ b : UInt8, b = UInt8.ofNat (48 + j % 10) := ⟨_, rfl⟩
      rw [← hbe] at HN
      have hbn : (b.toNat : Int) = 48 + (j : Int) % 10 := by rw [hbe, UInt8.toNat_ofNat']; omega
      have hm1 : (0 : Int) ≤ (j : Int) % 10 := by omega
      have hm2 : (j : Int) % 10 < 10 := by omega
      have hcv := run_convert_bytes_back (P := Tryd.prog) (wr.alloc (.cells #[.int .u8 (b.toNat : Int)] 5)) 88 9 5 ⟨wr.heap.size, 0, none⟩ 1 [b] Tryd.underlying88 Tryd.underlying5 Tryd.underlying9 (by
        intro q hq
        have : q = 0 := by simpa using hq
        subst this
        simp [Addr.add])
      rw [hbn] at hcv
      simp only [List.length_singleton] at hcv
      have hj' : (j : Int) > 0 := by omega
      rw [← hob]
      have HN' : Hid _ := HN
      have Hob : Hid _ := hob
      have Hbe : Hid _ := hbe
      clear hob hbe HN HS hbn
      go_wp2
      go_roundw
      case rel => exact ⟨j / 10, b :: out, by go_num, by
        rw [Hob.out]
        congr 1, HN', hb.alloc hb.size _⟩
      case measure => simp [intOf]; omega
    · have hj0 : j = 0 := by omega
      subst hj0
      have HF : Hid _ := HS.out.full
      rw [← hob]
      have Hob : Hid _ := hob
      clear hob HS
      go_wp2
      go_ret
      refine ⟨?_, hb⟩
      unfold markF strV
      rw [if_neg h0, HF.out, Hob.out]
      congr 2
end Go.Proofs.YtipndbhedaknnaaDoor
