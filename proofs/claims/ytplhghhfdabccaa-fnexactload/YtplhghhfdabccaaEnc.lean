import Derived.Test.YtplhghhfdabccaaTwo
import Derived.ArgAppend
import Derived.Lib.SmallJoins
import Derived.Laws.IdiomStrings
import Derived.Deep.RegionHeld3
import Derived.Deep.DrawnRows
import Derived.Deep.QuietTactic
import Derived.BigQuiet
namespace Go.Proofs.Ytplhghhfdabccaa
open Go.RowKit

/- BYTES: rows of the call's own. -/
theorem Try.infoByte : (Try.prog.info? 5).map (fun i => (i.zero, i.size, i.bytes)) = some (some (.int .u8 0), 1, 1) := by kernel_rfl
def byteV (b : UInt8) : Value := .int .u8 (b.toNat : Int)
def Bytes (B : Nat) (w : World) (g cap : Nat) (bs : List UInt8) : Prop := w.ownsRow B 5 1 (.slice (some ⟨g, 0, none⟩) bs.length cap) bs.length (bs.map byteV)
def twoM (n : Int) : Nat := if n < 0 then 65535 else n.toNat
def twoL (n : Int) : List UInt8 := [UInt8.ofNat (twoM n / 256), UInt8.ofNat (twoM n % 256)]
theorem ret_slice {a : Option Addr} {n m c : Nat} (h : n = m) : Ending.returned (.slice a n c) = .returned (.slice a m c) := by rw [h]
theorem twoL_len (n : Int) : (twoL n).length = 2 := rfl
theorem bytes_two {B g cap : Nat} {w : World} {bs : List UInt8} {n : Int} {u v : Value} (own : w.ownsRow B 5 1 (.slice (some ⟨g, 0, none⟩) (bs.length + 2) cap) (bs.length + 2) (bs.map byteV ++ [u, v])) (hu : (twoL n).map byteV = [u, v]) : Bytes B w g cap (bs ++ twoL n) := by
  unfold Bytes
  rw [List.map_append, hu, List.length_append, twoL_len]
  exact own
theorem twoL_neg {n : Int} (h : n < 0) : (twoL n).map byteV = [.int .u8 255, .int .u8 255] := by
  simp [twoL, twoM, h, byteV]
theorem twoL_nat {n : Int} (h0 : 0 ≤ n) (h1 : n ≤ 65535) : (twoL n).map byteV = [.int .u8 (n / 256), .int .u8 (n % 256)] := by
  have : ¬n < 0 := by omega
  simp [twoL, twoM, this, byteV]
  omega

set_option maxRecDepth 100000 in
set_option maxHeartbeats 400000 in
theorem l3Two_ok {B : Nat} (g cap : Nat) (bs : List UInt8) (n : Int) (w : World) (hown : Bytes B w g cap bs) (hB : B ≤ w.heap.size) (hl : bs.length ≤ 1900000) (h1 : n ≤ 65535) :
    Calls Try.prog 103 #[.slice (some ⟨g, 0, none⟩) bs.length cap, .int .i64 n] w fun e w' => ∃ g' cap', e = .returned (.slice (some ⟨g', 0, none⟩) (bs ++ twoL n).length cap') ∧ Bytes B w' g' cap' (bs ++ twoL n) ∧ Below B w w' := by
  obtain ⟨i0, hi, hz0, hz1, hz2⟩ := info_parts Try.infoByte
  have hg := (own_form hown).1
  by_cases hn : n < 0
  · go_enter Try.func103, Try.ntmps103
    go_wp2_with (refine wpList_append_two w w.heap.size rfl rfl (.tmp 7) (.tmp 14) 104 rfl B 5 i0 _ 1 Try.underlying104 hi hz0 hz1 hz2 rfl g cap bs.length (bs.map byteV) _ _ rfl hown rfl rfl rfl (by omega) (by omega) hB ?_; intro g' cap' w1 own1 grow1 at1)
    go_ret
    exact ⟨g', cap', ret_slice (by simp [twoL_len]), bytes_two own1 (twoL_neg hn), (Below.refl _ _).grown grow1 hB (by intro k h; cases h; exact hg)⟩
  · go_enter Try.func103, Try.ntmps103
    go_wp2_with (refine wpList_append_two w w.heap.size rfl rfl (.tmp 7) (.tmp 14) 104 rfl B 5 i0 _ 1 Try.underlying104 hi hz0 hz1 hz2 rfl g cap bs.length (bs.map byteV) _ _ rfl hown rfl rfl rfl (by omega) (by omega) hB ?_; intro g' cap' w1 own1 grow1 at1)
    go_ret
    exact ⟨g', cap', ret_slice (by simp [twoL_len]), bytes_two own1 (twoL_nat hn h1), (Below.refl _ _).grown grow1 hB (by intro k h; cases h; exact hg)⟩

theorem new_two (w : World) (u v : Value) (t : TypeId) : ∀ j x, [u, v][j]? = some x → (w.alloc (.cells #[u, v] t)).cell? ((⟨w.heap.size, 0, none⟩ : Addr).add j) = some x := by
  intro j x hx
  match j, hx with
  | 0, hx => simp at hx; subst hx; simp [Addr.add]
  | 1, hx => simp at hx; subst hx; simp [Addr.add]

set_option maxRecDepth 100000 in
set_option maxHeartbeats 400000 in
/-- The same onto a full slice that is only read. -/
theorem l3Two_first {B : Nat} (g cap : Nat) (bs : List UInt8) (n : Int) (w : World) (hc : ∀ j u, (bs.map byteV)[j]? = some u → w.cell? ⟨g, j, none⟩ = some u) (hfull : cap < bs.length + 2) (hB : B ≤ w.heap.size) (hl : bs.length ≤ 1900000) (h1 : n ≤ 65535) :
    Calls Try.prog 103 #[.slice (some ⟨g, 0, none⟩) bs.length cap, .int .i64 n] w fun e w' => ∃ g' cap', e = .returned (.slice (some ⟨g', 0, none⟩) (bs ++ twoL n).length cap') ∧ Bytes B w' g' cap' (bs ++ twoL n) ∧ Below B w w' := by
  obtain ⟨i0, hi, hz0, hz1, hz2⟩ := info_parts Try.infoByte
  have hc' : ∀ (u v : Value) j x, (bs.map byteV)[j]? = some x → (w.alloc (.cells #[u, v] 5)).cell? ((⟨g, 0, none⟩ : Addr).add j) = some x := by
    intro u v j x hx
    have h2 := hc j x hx
    have : (⟨g, 0, none⟩ : Addr).add j = ⟨g, j, none⟩ := by unfold Addr.add; split <;> simp_all
    rw [this]
    have hlt := block_lt_of_cell h2
    rw [← h2]
    exact World.cell?_of_block (Below.heap_alloc _ _ _ hlt)
  have fin : ∀ (u v : Value), (twoL n).map byteV = [u, v] → ∀ v' w', w'.ownsRow (w.alloc (.cells #[u, v] 5)).heap.size 5 1 v' (bs.length + 2) (bs.map byteV ++ [u, v]) → (w.alloc (.cells #[u, v] 5)).grownBy w' none →
      ∃ g' cap', v' = .slice (some ⟨g', 0, none⟩) (bs ++ twoL n).length cap' ∧ Bytes B w' g' cap' (bs ++ twoL n) ∧ Below B w w' := by
    intro u v hu v' w' own grow
    rcases own.2 with ⟨_, h0⟩ | ⟨g', cap', cur, rfl, hg, r⟩
    · omega
    · refine ⟨g', cap', by simp [twoL_len], bytes_two (n := n) ⟨own.1, .inr ⟨g', cap', cur, rfl, Nat.le_trans (Nat.le_trans hB (by simp)) hg, r⟩⟩ hu, ((Below.refl _ _).alloc hB _).grown grow (Nat.le_trans hB (by simp)) (by intro k h; cases h)⟩
  by_cases hn : n < 0
  · go_enter Try.func103, Try.ntmps103
    go_wp2_with (refine wpList_append_grows _ rfl (.tmp 7) (.tmp 14) 104 rfl 5 i0 _ 1 1 Try.underlying104 hi hz0 hz1 hz2 rfl (by omega) (some ⟨g, 0, none⟩) bs.length cap (bs.map byteV) rfl (by intro h; cases h) (by simp) (fun b hb => by cases hb; exact hc' _ _) ⟨w.heap.size, 0, none⟩ 2 2 [.int .u8 255, .int .u8 255] rfl rfl (new_two w _ _ _) (by intro u hu; simp at hu; subst hu; rfl) hfull (by unfold maxLen; omega) (by omega) ?_; intro v' w1 own1 grow1)
    obtain ⟨g', cap', rfl, o1, b1⟩ := fin _ _ (twoL_neg hn) _ _ own1 grow1
    go_wp2
    go_ret
    exact ⟨g', cap', ret_slice (by simp [twoL_len]), o1, b1⟩
  · go_enter Try.func103, Try.ntmps103
    have hn' : 0 ≤ n := by omega
    go_wp2_with (refine wpList_append_grows _ rfl (.tmp 7) (.tmp 14) 104 rfl 5 i0 _ 1 1 Try.underlying104 hi hz0 hz1 hz2 rfl (by omega) (some ⟨g, 0, none⟩) bs.length cap (bs.map byteV) rfl (by intro h; cases h) (by simp) (fun b hb => by cases hb; exact hc' _ _) ⟨w.heap.size, 0, none⟩ 2 2 [.int .u8 (n / 256), .int .u8 (n % 256)] rfl rfl (new_two w _ _ _) (by intro u hu; simp at hu; rcases hu with rfl | rfl <;> rfl) hfull (by unfold maxLen; omega) (by omega) ?_; intro v' w1 own1 grow1)
    obtain ⟨g', cap', rfl, o1, b1⟩ := fin _ _ (twoL_nat hn' h1) _ _ own1 grow1
    go_wp2
    go_ret
    exact ⟨g', cap', ret_slice (by simp [twoL_len]), o1, b1⟩

theorem wrapS {n : Int} (h0 : 0 ≤ n) (h1 : n ≤ 1000000000000000000) : IntKind.i64.wrap n = n := by
  simp [IntKind.wrap, IntKind.bits, IntKind.signed]; omega
def sumF (l : List UInt8) : Nat := l.foldl (fun s b => (s + b.toNat) % 65536) 0
theorem sumF_lt (l : List UInt8) : sumF l < 65536 := by
  unfold sumF
  have : ∀ (l : List UInt8) (s : Nat), s < 65536 → l.foldl (fun s b => (s + b.toNat) % 65536) s < 65536 := by
    intro l
    induction l with
    | nil => intro s h; exact h
    | cons b l ih => intro s h; exact ih _ (Nat.mod_lt _ (by omega))
  exact this l 0 (by omega)
theorem sumF_take (l : List UInt8) (k : Nat) (h : k < l.length) : sumF (l.take (k + 1)) = (sumF (l.take k) + (l.getD k 0).toNat) % 65536 := by
  unfold sumF
  rw [List.take_succ_eq_append_getElem h, List.foldl_append]
  simp only [List.foldl_cons, List.foldl_nil, List.getD, List.getElem?_eq_getElem h, Option.getD_some]
theorem Bytes.cell {B g cap : Nat} {w : World} {bs : List UInt8} (h : Bytes B w g cap bs) {k : Nat} (hk : k < bs.length) : w.cell? ⟨g, k, none⟩ = some (.int .u8 ((bs.getD k 0).toNat : Int)) := by
  unfold Bytes at h
  rw [h.cellAt k (by omega)]
  simp [byteV, List.getD, hk]

set_option maxRecDepth 100000 in
set_option maxHeartbeats 400000 in
theorem l3Sum_at (g cap : Nat) (bs : List UInt8) (w : World) (hown : ∀ k, k < bs.length → w.cell? ⟨g, k, none⟩ = some (.int .u8 ((bs.getD k 0).toNat : Int))) (hl : bs.length ≤ 1900000) :
    Calls Try.prog 78 #[.slice (some ⟨g, 0, none⟩) bs.length cap] w fun e w' => e = .returned (.int .i64 (sumF bs)) ∧ w' = w := by
  have HO : Hid _ := hown
  clear hown
  go_enter Try.func78, Try.ntmps78
  go_wp2
  go_loop [3, 4] (fun s i => ∃ k : Nat, k ≤ bs.length ∧ i = .int .i64 k ∧ s = .int .i64 (sumF (bs.take k))) (fun _ i => bs.length - (intOf i).toNat)
  case atStart => exact ⟨0, Nat.zero_le _, rfl, rfl⟩
  case round =>
    obtain ⟨k, hk, rfl, rfl⟩ := hrel
    have hlt := sumF_lt (bs.take k)
    by_cases hlt2 : k < bs.length
    · have HS : Hid _ := sumF_take bs k hlt2
      have c0 := HO.out k hlt2
      have hb := (bs.getD k 0).toNat_lt
      generalize sumF (bs.take k) = x at *
      generalize (bs.getD k 0).toNat = y at *
      go_wp2
      go_round
      case rel => exact ⟨k + 1, by omega, by go_num, by rw [HS.out]; congr 1⟩
      case measure => simp [intOf]; omega
    · go_wp2
      go_ret
      exact ⟨ret_int (by rw [List.take_of_length_le (by omega)]), rfl⟩
theorem l3Sum_ok {B : Nat} (g cap : Nat) (bs : List UInt8) (w : World) (hown : Bytes B w g cap bs) (hl : bs.length ≤ 1900000) :
    Calls Try.prog 78 #[.slice (some ⟨g, 0, none⟩) bs.length cap] w fun e w' => e = .returned (.int .i64 (sumF bs)) ∧ w' = w :=
  l3Sum_at g cap bs w (fun _ hk => hown.cell hk) hl
end Go.Proofs.Ytplhghhfdabccaa
